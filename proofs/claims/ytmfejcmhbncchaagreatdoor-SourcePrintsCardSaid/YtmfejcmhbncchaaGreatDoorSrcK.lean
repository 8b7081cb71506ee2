/- What the program's cutter does: cutKept. -/
import Derived.Test.YtmfejcmhbncchaaGreatDoorSrcJ
namespace Go.Proofs.YtmfejcmhbncchaaGreatDoor
open Go.RowKit

/-- A kept word in a block of its own. -/
def WX (w : World) (P : Nat) (x : ByteArray) (k : Int) : Prop := w.heap[P]? = some (.cells #[.string x, .int .i64 k] 58 (0, 0))
theorem WX.lt {w : World} {P : Nat} {x : ByteArray} {k : Int} (a : WX w P x k) : P < w.heap.size := lt_of_block a
theorem WX.below {w w' : World} {P : Nat} {x : ByteArray} {k : Int} (a : WX w P x k) (hb : Below w.heap.size w w') : WX w' P x k := by
  unfold WX at *
  rw [hb.block P (lt_of_block a)]; exact a
theorem WX.made (w : World) (x : ByteArray) (k : Int) : WX (w.alloc (.cells #[.string x, .int .i64 k] 58)) w.heap.size x k := new_block w _
theorem WX.c0 {w : World} {P : Nat} {x : ByteArray} {k : Int} (a : WX w P x k) : w.cell? ⟨P, 0, none⟩ = some (.string x) := by rw [cell_of a]; rfl
theorem WX.c1 {w : World} {P : Nat} {x : ByteArray} {k : Int} (a : WX w P x k) : w.cell? ⟨P, 1, none⟩ = some (.int .i64 k) := by rw [cell_of a]; rfl
theorem kept_none {l : List UInt8} (h : ∀ z : Int, 1 ≤ z → z ≤ 8 → low l ≠ keptM z) : keptO l = none := by
  unfold keptO
  rw [List.find?_eq_none]
  intro z hz
  have h2 := h z
  simp only [List.mem_cons, List.not_mem_nil, or_false] at hz
  rw [decide_eq_true_eq]
  exact h2 (by omega) (by omega)
theorem kept_at1 {l : List UInt8} (_h : ∀ z : Int, 1 ≤ z → z ≤ 0 → low l ≠ keptM z) (e : low l = keptM 1) : keptO l = some 1 := by
  unfold keptO
  simp only [List.find?_cons]
  rw [decide_eq_true e]
theorem kept_at2 {l : List UInt8} (h : ∀ z : Int, 1 ≤ z → z ≤ 1 → low l ≠ keptM z) (e : low l = keptM 2) : keptO l = some 2 := by
  unfold keptO
  simp only [List.find?_cons]
  rw [decide_eq_false (h 1 (by decide) (by decide))]
  simp only []
  rw [decide_eq_true e]
theorem kept_at3 {l : List UInt8} (h : ∀ z : Int, 1 ≤ z → z ≤ 2 → low l ≠ keptM z) (e : low l = keptM 3) : keptO l = some 3 := by
  unfold keptO
  simp only [List.find?_cons]
  rw [decide_eq_false (h 1 (by decide) (by decide))]
  simp only []
  rw [decide_eq_false (h 2 (by decide) (by decide))]
  simp only []
  rw [decide_eq_true e]
theorem kept_at4 {l : List UInt8} (h : ∀ z : Int, 1 ≤ z → z ≤ 3 → low l ≠ keptM z) (e : low l = keptM 4) : keptO l = some 4 := by
  unfold keptO
  simp only [List.find?_cons]
  rw [decide_eq_false (h 1 (by decide) (by decide))]
  simp only []
  rw [decide_eq_false (h 2 (by decide) (by decide))]
  simp only []
  rw [decide_eq_false (h 3 (by decide) (by decide))]
  simp only []
  rw [decide_eq_true e]
theorem kept_at5 {l : List UInt8} (h : ∀ z : Int, 1 ≤ z → z ≤ 4 → low l ≠ keptM z) (e : low l = keptM 5) : keptO l = some 5 := by
  unfold keptO
  simp only [List.find?_cons]
  rw [decide_eq_false (h 1 (by decide) (by decide))]
  simp only []
  rw [decide_eq_false (h 2 (by decide) (by decide))]
  simp only []
  rw [decide_eq_false (h 3 (by decide) (by decide))]
  simp only []
  rw [decide_eq_false (h 4 (by decide) (by decide))]
  simp only []
  rw [decide_eq_true e]
theorem kept_at6 {l : List UInt8} (h : ∀ z : Int, 1 ≤ z → z ≤ 5 → low l ≠ keptM z) (e : low l = keptM 6) : keptO l = some 6 := by
  unfold keptO
  simp only [List.find?_cons]
  rw [decide_eq_false (h 1 (by decide) (by decide))]
  simp only []
  rw [decide_eq_false (h 2 (by decide) (by decide))]
  simp only []
  rw [decide_eq_false (h 3 (by decide) (by decide))]
  simp only []
  rw [decide_eq_false (h 4 (by decide) (by decide))]
  simp only []
  rw [decide_eq_false (h 5 (by decide) (by decide))]
  simp only []
  rw [decide_eq_true e]
theorem kept_at7 {l : List UInt8} (h : ∀ z : Int, 1 ≤ z → z ≤ 6 → low l ≠ keptM z) (e : low l = keptM 7) : keptO l = some 7 := by
  unfold keptO
  simp only [List.find?_cons]
  rw [decide_eq_false (h 1 (by decide) (by decide))]
  simp only []
  rw [decide_eq_false (h 2 (by decide) (by decide))]
  simp only []
  rw [decide_eq_false (h 3 (by decide) (by decide))]
  simp only []
  rw [decide_eq_false (h 4 (by decide) (by decide))]
  simp only []
  rw [decide_eq_false (h 5 (by decide) (by decide))]
  simp only []
  rw [decide_eq_false (h 6 (by decide) (by decide))]
  simp only []
  rw [decide_eq_true e]
theorem kept_at8 {l : List UInt8} (h : ∀ z : Int, 1 ≤ z → z ≤ 7 → low l ≠ keptM z) (e : low l = keptM 8) : keptO l = some 8 := by
  unfold keptO
  simp only [List.find?_cons]
  rw [decide_eq_false (h 1 (by decide) (by decide))]
  simp only []
  rw [decide_eq_false (h 2 (by decide) (by decide))]
  simp only []
  rw [decide_eq_false (h 3 (by decide) (by decide))]
  simp only []
  rw [decide_eq_false (h 4 (by decide) (by decide))]
  simp only []
  rw [decide_eq_false (h 5 (by decide) (by decide))]
  simp only []
  rw [decide_eq_false (h 6 (by decide) (by decide))]
  simp only []
  rw [decide_eq_false (h 7 (by decide) (by decide))]
  simp only []
  rw [decide_eq_true e]

set_option maxRecDepth 100000 in
set_option maxHeartbeats 8000000 in
/-- Is a word a kept one? -/
theorem cutK_any (L : ByteArray) (hL : L.size ≤ 1000000) (B : Nat) (w : World) (hlow : LowIn B w) (k : Int) (t s h : ByteArray) (b : Bool) (p : Int) (pa : ByteArray) (a : CX w B k t s h b p pa L) :
    Calls Tryz.prog 42 #[.pointer (some ⟨B, 0, none⟩)] w fun e w' => ∃ r, e = .returned (.bool r) ∧ ((∃ k', keptO L.data.toList = some k' ∧ r = true ∧ CX w' B k' t s h b p pa L) ∨ (keptO L.data.toList = none ∧ r = false ∧ CX w' B k t s h b p pa L)) ∧ Below B w w' := by
  have hlt := a.lt
  have hk := hlow.2.1.2
  have HG : Hid (LowIn B w) := Lib.hid hlow
  have c0 : w.cell? ⟨0, 0, none⟩ = some (.string ⟨#[39, 110, 111, 110, 101, 39]⟩) := hk 0 (by decide)
  have c1 : w.cell? ⟨0, 1, none⟩ = some (.int .i64 1) := hk 1 (by decide)
  have c2 : w.cell? ⟨0, 2, none⟩ = some (.string ⟨#[39, 115, 101, 108, 102, 39]⟩) := hk 2 (by decide)
  have c3 : w.cell? ⟨0, 3, none⟩ = some (.int .i64 2) := hk 3 (by decide)
  have c4 : w.cell? ⟨0, 4, none⟩ = some (.string ⟨#[39, 117, 110, 115, 97, 102, 101, 45, 105, 110, 108, 105, 110, 101, 39]⟩) := hk 4 (by decide)
  have c5 : w.cell? ⟨0, 5, none⟩ = some (.int .i64 3) := hk 5 (by decide)
  have c6 : w.cell? ⟨0, 6, none⟩ = some (.string ⟨#[39, 117, 110, 115, 97, 102, 101, 45, 101, 118, 97, 108, 39]⟩) := hk 6 (by decide)
  have c7 : w.cell? ⟨0, 7, none⟩ = some (.int .i64 4) := hk 7 (by decide)
  have c8 : w.cell? ⟨0, 8, none⟩ = some (.string ⟨#[39, 119, 97, 115, 109, 45, 117, 110, 115, 97, 102, 101, 45, 101, 118, 97, 108, 39]⟩) := hk 8 (by decide)
  have c9 : w.cell? ⟨0, 9, none⟩ = some (.int .i64 5) := hk 9 (by decide)
  have c10 : w.cell? ⟨0, 10, none⟩ = some (.string ⟨#[39, 115, 116, 114, 105, 99, 116, 45, 100, 121, 110, 97, 109, 105, 99, 39]⟩) := hk 10 (by decide)
  have c11 : w.cell? ⟨0, 11, none⟩ = some (.int .i64 6) := hk 11 (by decide)
  have c12 : w.cell? ⟨0, 12, none⟩ = some (.string ⟨#[39, 117, 110, 115, 97, 102, 101, 45, 104, 97, 115, 104, 101, 115, 39]⟩) := hk 12 (by decide)
  have c13 : w.cell? ⟨0, 13, none⟩ = some (.int .i64 7) := hk 13 (by decide)
  have c14 : w.cell? ⟨0, 14, none⟩ = some (.string ⟨#[39, 114, 101, 112, 111, 114, 116, 45, 115, 97, 109, 112, 108, 101, 39]⟩) := hk 14 (by decide)
  have c15 : w.cell? ⟨0, 15, none⟩ = some (.int .i64 8) := hk 15 (by decide)
  have CS0 := fun r hr => sameP_hid L ⟨#[39, 110, 111, 110, 101, 39]⟩ r hr (by omega) (by decide)
  have CS1 := fun r hr => sameP_hid L ⟨#[39, 115, 101, 108, 102, 39]⟩ r hr (by omega) (by decide)
  have CS2 := fun r hr => sameP_hid L ⟨#[39, 117, 110, 115, 97, 102, 101, 45, 105, 110, 108, 105, 110, 101, 39]⟩ r hr (by omega) (by decide)
  have CS3 := fun r hr => sameP_hid L ⟨#[39, 117, 110, 115, 97, 102, 101, 45, 101, 118, 97, 108, 39]⟩ r hr (by omega) (by decide)
  have CS4 := fun r hr => sameP_hid L ⟨#[39, 119, 97, 115, 109, 45, 117, 110, 115, 97, 102, 101, 45, 101, 118, 97, 108, 39]⟩ r hr (by omega) (by decide)
  have CS5 := fun r hr => sameP_hid L ⟨#[39, 115, 116, 114, 105, 99, 116, 45, 100, 121, 110, 97, 109, 105, 99, 39]⟩ r hr (by omega) (by decide)
  have CS6 := fun r hr => sameP_hid L ⟨#[39, 117, 110, 115, 97, 102, 101, 45, 104, 97, 115, 104, 101, 115, 39]⟩ r hr (by omega) (by decide)
  have CS7 := fun r hr => sameP_hid L ⟨#[39, 114, 101, 112, 111, 114, 116, 45, 115, 97, 109, 112, 108, 101, 39]⟩ r hr (by omega) (by decide)
  clear hk hlow
  go_enter Tryz.func42, Tryz.ntmps42
  go_wp2
  clear c0 c1 c2 c3 c4 c5 c6 c7 c8 c9 c10 c11 c12 c13 c14 c15
  go_loopw [6] (fun i wr => ∃ j : Nat, j ≤ 8 ∧ i = .int .i64 j ∧ Hid (∀ z : Int, 1 ≤ z → z ≤ (j : Int) → low L.data.toList ≠ keptM z) ∧ CX wr B k t s h b p pa L ∧ Below B w wr) (fun i _ => 8 - (intOf i).toNat)
  case atStart => exact ⟨0, by decide, rfl, Lib.hid (by intro z h1 h2; omega), a, Below.refl _ _⟩
  case round =>
    obtain ⟨j, hj, rfl, HN, ar, hb⟩ := hrel
    clear a hlt
    obtain rfl | rfl | rfl | rfl | rfl | rfl | rfl | rfl | rfl : j = 0 ∨ j = 1 ∨ j = 2 ∨ j = 3 ∨ j = 4 ∨ j = 5 ∨ j = 6 ∨ j = 7 ∨ j = 8 := by omega
    · have ix := kidx0
      obtain ⟨r, hr⟩ : ∃ r, decide (low L.data.toList = low (⟨#[39, 110, 111, 110, 101, 39]⟩ : ByteArray).data.toList) = r := ⟨_, rfl⟩
      have CS := CS0 r hr
      have HR : Hid (decide (low L.data.toList = keptM 1) = r) := Lib.hid hr
      clear CS0 CS1 CS2 CS3 CS4 CS5 CS6 CS7 hr
      go_wp2
      have xw := WX.made wr ⟨#[39, 110, 111, 110, 101, 39]⟩ 1
      have al : Below wr.heap.size wr (wr.alloc (.cells #[.string ⟨#[39, 110, 111, 110, 101, 39]⟩, .int .i64 1] 58)) := (Below.refl _ _).alloc (Nat.le_refl _) _
      have x2 := ar.below al
      have B2 := hb.trans (al.mono (Nat.le_of_lt ar.lt))
      have hne : wr.heap.size ≠ B := by have := ar.lt; omega
      generalize wr.heap.size = P at xw hne ⊢
      generalize wr.alloc (.cells #[.string ⟨#[39, 110, 111, 110, 101, 39]⟩, .int .i64 1] 58) = w2 at xw x2 B2 ⊢
      clear ar hb al
      obtain ⟨C, hC⟩ : ∃ C : World → Prop, ∀ w', C w' ↔ (CX w' B k t s h b p pa L ∧ WX w' P ⟨#[39, 110, 111, 110, 101, 39]⟩ 1 ∧ Below B w w') := ⟨_, fun _ => Iff.rfl⟩
      have HC := Lib.hid hC
      clear hC
      have hC0 : C w2.drew := (HC.out _).2 (⟨x2, xw, B2.drew⟩)
      have HK : Hid (∀ w', C w' → ∀ w7, Below w'.heap.size w' w7 → C w7) := Lib.hid fun w' hc w7 b => by
        obtain ⟨x7, y7, K7⟩ := (HC.out w').1 hc
        exact (HC.out _).2 ⟨x7.below b, y7.below b, K7.trans (b.mono (Nat.le_of_lt x7.lt))⟩
      refine region_class C (by kernel_rfl) (by kernel_rfl) hC0 ?_
      clear hC0
      repeat
        first
          | go_big_quiet_skip
          | (go_big_quiet_want; go_big_quiet_op; go_big_quiet_on)
          | (refine BigFrame.wpQuiet_want rfl (fun K hK => ?_)
             apply Exists.intro
             refine ⟨fun w' hc => ?_, hK _ ?_⟩
             · obtain ⟨x7, y7, K7⟩ := (HC.out w').1 hc
               have d7 := x7.c7
               have e0 := y7.c0
               unfold Oper.quietAt
               go_simp
               first
                 | done
                 | rfl
                 | ((with_reducible refine (CS.out _).mono ?_); rintro e w7 ⟨rfl, b7⟩; exact ⟨rfl, HK.out w' hc w7 b7⟩)
             clear hK K
             simp only [Act.put, List.setIfInBounds_toArray, List.set_cons_zero, List.set_cons_succ])
      refine wpQuiet_nil ?_
      intro w3 hc
      obtain ⟨xw3, yw3, Kw3⟩ := (HC.out w3).1 hc
      clear hc HC HK

      clear xw x2 B2
      have d7 := xw3.c7
      have e1 := yw3.c1
      have f0 := xw3.free 0
      have a3 := xw3.set0 1
      have B3 := Kw3.setCell (p := ⟨B, 0, none⟩) (Nat.le_refl _) (.int .i64 1)
      have d0 := xw3.c0
      cases r
      · have HN2 : Hid (∀ z : Int, 1 ≤ z → z ≤ (1 : Nat) → low L.data.toList ≠ keptM z) := Lib.hid (by
          intro z h1 h2 e
          by_cases h3 : z ≤ 0
          · exact HN.out z h1 (by simpa using h3) e
          · have : z = 1 := by omega
            subst this
            exact absurd e (of_decide_eq_false HR.out))
        clear HN HR a3 B3
        go_wp2
        go_roundw
        case rel => exact ⟨1, by decide, rfl, HN2, xw3, Kw3⟩
        case measure => decide
      · have HE : Hid (keptO L.data.toList = some 1) := Lib.hid (kept_at1 (fun z h1 h2 => HN.out z h1 (by simpa using h2)) (of_decide_eq_true HR.out))
        clear HN HR
        go_wp2
        go_ret
        exact ⟨_, rfl, .inl ⟨_, HE.out, rfl, a3⟩, B3⟩
    · have ix := kidx1
      obtain ⟨r, hr⟩ : ∃ r, decide (low L.data.toList = low (⟨#[39, 115, 101, 108, 102, 39]⟩ : ByteArray).data.toList) = r := ⟨_, rfl⟩
      have CS := CS1 r hr
      have HR : Hid (decide (low L.data.toList = keptM 2) = r) := Lib.hid hr
      clear CS0 CS1 CS2 CS3 CS4 CS5 CS6 CS7 hr
      go_wp2
      have xw := WX.made wr ⟨#[39, 115, 101, 108, 102, 39]⟩ 2
      have al : Below wr.heap.size wr (wr.alloc (.cells #[.string ⟨#[39, 115, 101, 108, 102, 39]⟩, .int .i64 2] 58)) := (Below.refl _ _).alloc (Nat.le_refl _) _
      have x2 := ar.below al
      have B2 := hb.trans (al.mono (Nat.le_of_lt ar.lt))
      have hne : wr.heap.size ≠ B := by have := ar.lt; omega
      generalize wr.heap.size = P at xw hne ⊢
      generalize wr.alloc (.cells #[.string ⟨#[39, 115, 101, 108, 102, 39]⟩, .int .i64 2] 58) = w2 at xw x2 B2 ⊢
      clear ar hb al
      obtain ⟨C, hC⟩ : ∃ C : World → Prop, ∀ w', C w' ↔ (CX w' B k t s h b p pa L ∧ WX w' P ⟨#[39, 115, 101, 108, 102, 39]⟩ 2 ∧ Below B w w') := ⟨_, fun _ => Iff.rfl⟩
      have HC := Lib.hid hC
      clear hC
      have hC0 : C w2.drew := (HC.out _).2 (⟨x2, xw, B2.drew⟩)
      have HK : Hid (∀ w', C w' → ∀ w7, Below w'.heap.size w' w7 → C w7) := Lib.hid fun w' hc w7 b => by
        obtain ⟨x7, y7, K7⟩ := (HC.out w').1 hc
        exact (HC.out _).2 ⟨x7.below b, y7.below b, K7.trans (b.mono (Nat.le_of_lt x7.lt))⟩
      refine region_class C (by kernel_rfl) (by kernel_rfl) hC0 ?_
      clear hC0
      repeat
        first
          | go_big_quiet_skip
          | (go_big_quiet_want; go_big_quiet_op; go_big_quiet_on)
          | (refine BigFrame.wpQuiet_want rfl (fun K hK => ?_)
             apply Exists.intro
             refine ⟨fun w' hc => ?_, hK _ ?_⟩
             · obtain ⟨x7, y7, K7⟩ := (HC.out w').1 hc
               have d7 := x7.c7
               have e0 := y7.c0
               unfold Oper.quietAt
               go_simp
               first
                 | done
                 | rfl
                 | ((with_reducible refine (CS.out _).mono ?_); rintro e w7 ⟨rfl, b7⟩; exact ⟨rfl, HK.out w' hc w7 b7⟩)
             clear hK K
             simp only [Act.put, List.setIfInBounds_toArray, List.set_cons_zero, List.set_cons_succ])
      refine wpQuiet_nil ?_
      intro w3 hc
      obtain ⟨xw3, yw3, Kw3⟩ := (HC.out w3).1 hc
      clear hc HC HK

      clear xw x2 B2
      have d7 := xw3.c7
      have e1 := yw3.c1
      have f0 := xw3.free 0
      have a3 := xw3.set0 2
      have B3 := Kw3.setCell (p := ⟨B, 0, none⟩) (Nat.le_refl _) (.int .i64 2)
      have d0 := xw3.c0
      cases r
      · have HN2 : Hid (∀ z : Int, 1 ≤ z → z ≤ (2 : Nat) → low L.data.toList ≠ keptM z) := Lib.hid (by
          intro z h1 h2 e
          by_cases h3 : z ≤ 1
          · exact HN.out z h1 (by simpa using h3) e
          · have : z = 2 := by omega
            subst this
            exact absurd e (of_decide_eq_false HR.out))
        clear HN HR a3 B3
        go_wp2
        go_roundw
        case rel => exact ⟨2, by decide, rfl, HN2, xw3, Kw3⟩
        case measure => decide
      · have HE : Hid (keptO L.data.toList = some 2) := Lib.hid (kept_at2 (fun z h1 h2 => HN.out z h1 (by simpa using h2)) (of_decide_eq_true HR.out))
        clear HN HR
        go_wp2
        go_ret
        exact ⟨_, rfl, .inl ⟨_, HE.out, rfl, a3⟩, B3⟩
    · have ix := kidx2
      obtain ⟨r, hr⟩ : ∃ r, decide (low L.data.toList = low (⟨#[39, 117, 110, 115, 97, 102, 101, 45, 105, 110, 108, 105, 110, 101, 39]⟩ : ByteArray).data.toList) = r := ⟨_, rfl⟩
      have CS := CS2 r hr
      have HR : Hid (decide (low L.data.toList = keptM 3) = r) := Lib.hid hr
      clear CS0 CS1 CS2 CS3 CS4 CS5 CS6 CS7 hr
      go_wp2
      have xw := WX.made wr ⟨#[39, 117, 110, 115, 97, 102, 101, 45, 105, 110, 108, 105, 110, 101, 39]⟩ 3
      have al : Below wr.heap.size wr (wr.alloc (.cells #[.string ⟨#[39, 117, 110, 115, 97, 102, 101, 45, 105, 110, 108, 105, 110, 101, 39]⟩, .int .i64 3] 58)) := (Below.refl _ _).alloc (Nat.le_refl _) _
      have x2 := ar.below al
      have B2 := hb.trans (al.mono (Nat.le_of_lt ar.lt))
      have hne : wr.heap.size ≠ B := by have := ar.lt; omega
      generalize wr.heap.size = P at xw hne ⊢
      generalize wr.alloc (.cells #[.string ⟨#[39, 117, 110, 115, 97, 102, 101, 45, 105, 110, 108, 105, 110, 101, 39]⟩, .int .i64 3] 58) = w2 at xw x2 B2 ⊢
      clear ar hb al
      obtain ⟨C, hC⟩ : ∃ C : World → Prop, ∀ w', C w' ↔ (CX w' B k t s h b p pa L ∧ WX w' P ⟨#[39, 117, 110, 115, 97, 102, 101, 45, 105, 110, 108, 105, 110, 101, 39]⟩ 3 ∧ Below B w w') := ⟨_, fun _ => Iff.rfl⟩
      have HC := Lib.hid hC
      clear hC
      have hC0 : C w2.drew := (HC.out _).2 (⟨x2, xw, B2.drew⟩)
      have HK : Hid (∀ w', C w' → ∀ w7, Below w'.heap.size w' w7 → C w7) := Lib.hid fun w' hc w7 b => by
        obtain ⟨x7, y7, K7⟩ := (HC.out w').1 hc
        exact (HC.out _).2 ⟨x7.below b, y7.below b, K7.trans (b.mono (Nat.le_of_lt x7.lt))⟩
      refine region_class C (by kernel_rfl) (by kernel_rfl) hC0 ?_
      clear hC0
      repeat
        first
          | go_big_quiet_skip
          | (go_big_quiet_want; go_big_quiet_op; go_big_quiet_on)
          | (refine BigFrame.wpQuiet_want rfl (fun K hK => ?_)
             apply Exists.intro
             refine ⟨fun w' hc => ?_, hK _ ?_⟩
             · obtain ⟨x7, y7, K7⟩ := (HC.out w').1 hc
               have d7 := x7.c7
               have e0 := y7.c0
               unfold Oper.quietAt
               go_simp
               first
                 | done
                 | rfl
                 | ((with_reducible refine (CS.out _).mono ?_); rintro e w7 ⟨rfl, b7⟩; exact ⟨rfl, HK.out w' hc w7 b7⟩)
             clear hK K
             simp only [Act.put, List.setIfInBounds_toArray, List.set_cons_zero, List.set_cons_succ])
      refine wpQuiet_nil ?_
      intro w3 hc
      obtain ⟨xw3, yw3, Kw3⟩ := (HC.out w3).1 hc
      clear hc HC HK

      clear xw x2 B2
      have d7 := xw3.c7
      have e1 := yw3.c1
      have f0 := xw3.free 0
      have a3 := xw3.set0 3
      have B3 := Kw3.setCell (p := ⟨B, 0, none⟩) (Nat.le_refl _) (.int .i64 3)
      have d0 := xw3.c0
      cases r
      · have HN2 : Hid (∀ z : Int, 1 ≤ z → z ≤ (3 : Nat) → low L.data.toList ≠ keptM z) := Lib.hid (by
          intro z h1 h2 e
          by_cases h3 : z ≤ 2
          · exact HN.out z h1 (by simpa using h3) e
          · have : z = 3 := by omega
            subst this
            exact absurd e (of_decide_eq_false HR.out))
        clear HN HR a3 B3
        go_wp2
        go_roundw
        case rel => exact ⟨3, by decide, rfl, HN2, xw3, Kw3⟩
        case measure => decide
      · have HE : Hid (keptO L.data.toList = some 3) := Lib.hid (kept_at3 (fun z h1 h2 => HN.out z h1 (by simpa using h2)) (of_decide_eq_true HR.out))
        clear HN HR
        go_wp2
        go_ret
        exact ⟨_, rfl, .inl ⟨_, HE.out, rfl, a3⟩, B3⟩
    · have ix := kidx3
      obtain ⟨r, hr⟩ : ∃ r, decide (low L.data.toList = low (⟨#[39, 117, 110, 115, 97, 102, 101, 45, 101, 118, 97, 108, 39]⟩ : ByteArray).data.toList) = r := ⟨_, rfl⟩
      have CS := CS3 r hr
      have HR : Hid (decide (low L.data.toList = keptM 4) = r) := Lib.hid hr
      clear CS0 CS1 CS2 CS3 CS4 CS5 CS6 CS7 hr
      go_wp2
      have xw := WX.made wr ⟨#[39, 117, 110, 115, 97, 102, 101, 45, 101, 118, 97, 108, 39]⟩ 4
      have al : Below wr.heap.size wr (wr.alloc (.cells #[.string ⟨#[39, 117, 110, 115, 97, 102, 101, 45, 101, 118, 97, 108, 39]⟩, .int .i64 4] 58)) := (Below.refl _ _).alloc (Nat.le_refl _) _
      have x2 := ar.below al
      have B2 := hb.trans (al.mono (Nat.le_of_lt ar.lt))
      have hne : wr.heap.size ≠ B := by have := ar.lt; omega
      generalize wr.heap.size = P at xw hne ⊢
      generalize wr.alloc (.cells #[.string ⟨#[39, 117, 110, 115, 97, 102, 101, 45, 101, 118, 97, 108, 39]⟩, .int .i64 4] 58) = w2 at xw x2 B2 ⊢
      clear ar hb al
      obtain ⟨C, hC⟩ : ∃ C : World → Prop, ∀ w', C w' ↔ (CX w' B k t s h b p pa L ∧ WX w' P ⟨#[39, 117, 110, 115, 97, 102, 101, 45, 101, 118, 97, 108, 39]⟩ 4 ∧ Below B w w') := ⟨_, fun _ => Iff.rfl⟩
      have HC := Lib.hid hC
      clear hC
      have hC0 : C w2.drew := (HC.out _).2 (⟨x2, xw, B2.drew⟩)
      have HK : Hid (∀ w', C w' → ∀ w7, Below w'.heap.size w' w7 → C w7) := Lib.hid fun w' hc w7 b => by
        obtain ⟨x7, y7, K7⟩ := (HC.out w').1 hc
        exact (HC.out _).2 ⟨x7.below b, y7.below b, K7.trans (b.mono (Nat.le_of_lt x7.lt))⟩
      refine region_class C (by kernel_rfl) (by kernel_rfl) hC0 ?_
      clear hC0
      repeat
        first
          | go_big_quiet_skip
          | (go_big_quiet_want; go_big_quiet_op; go_big_quiet_on)
          | (refine BigFrame.wpQuiet_want rfl (fun K hK => ?_)
             apply Exists.intro
             refine ⟨fun w' hc => ?_, hK _ ?_⟩
             · obtain ⟨x7, y7, K7⟩ := (HC.out w').1 hc
               have d7 := x7.c7
               have e0 := y7.c0
               unfold Oper.quietAt
               go_simp
               first
                 | done
                 | rfl
                 | ((with_reducible refine (CS.out _).mono ?_); rintro e w7 ⟨rfl, b7⟩; exact ⟨rfl, HK.out w' hc w7 b7⟩)
             clear hK K
             simp only [Act.put, List.setIfInBounds_toArray, List.set_cons_zero, List.set_cons_succ])
      refine wpQuiet_nil ?_
      intro w3 hc
      obtain ⟨xw3, yw3, Kw3⟩ := (HC.out w3).1 hc
      clear hc HC HK

      clear xw x2 B2
      have d7 := xw3.c7
      have e1 := yw3.c1
      have f0 := xw3.free 0
      have a3 := xw3.set0 4
      have B3 := Kw3.setCell (p := ⟨B, 0, none⟩) (Nat.le_refl _) (.int .i64 4)
      have d0 := xw3.c0
      cases r
      · have HN2 : Hid (∀ z : Int, 1 ≤ z → z ≤ (4 : Nat) → low L.data.toList ≠ keptM z) := Lib.hid (by
          intro z h1 h2 e
          by_cases h3 : z ≤ 3
          · exact HN.out z h1 (by simpa using h3) e
          · have : z = 4 := by omega
            subst this
            exact absurd e (of_decide_eq_false HR.out))
        clear HN HR a3 B3
        go_wp2
        go_roundw
        case rel => exact ⟨4, by decide, rfl, HN2, xw3, Kw3⟩
        case measure => decide
      · have HE : Hid (keptO L.data.toList = some 4) := Lib.hid (kept_at4 (fun z h1 h2 => HN.out z h1 (by simpa using h2)) (of_decide_eq_true HR.out))
        clear HN HR
        go_wp2
        go_ret
        exact ⟨_, rfl, .inl ⟨_, HE.out, rfl, a3⟩, B3⟩
    · have ix := kidx4
      obtain ⟨r, hr⟩ : ∃ r, decide (low L.data.toList = low (⟨#[39, 119, 97, 115, 109, 45, 117, 110, 115, 97, 102, 101, 45, 101, 118, 97, 108, 39]⟩ : ByteArray).data.toList) = r := ⟨_, rfl⟩
      have CS := CS4 r hr
      have HR : Hid (decide (low L.data.toList = keptM 5) = r) := Lib.hid hr
      clear CS0 CS1 CS2 CS3 CS4 CS5 CS6 CS7 hr
      go_wp2
      have xw := WX.made wr ⟨#[39, 119, 97, 115, 109, 45, 117, 110, 115, 97, 102, 101, 45, 101, 118, 97, 108, 39]⟩ 5
      have al : Below wr.heap.size wr (wr.alloc (.cells #[.string ⟨#[39, 119, 97, 115, 109, 45, 117, 110, 115, 97, 102, 101, 45, 101, 118, 97, 108, 39]⟩, .int .i64 5] 58)) := (Below.refl _ _).alloc (Nat.le_refl _) _
      have x2 := ar.below al
      have B2 := hb.trans (al.mono (Nat.le_of_lt ar.lt))
      have hne : wr.heap.size ≠ B := by have := ar.lt; omega
      generalize wr.heap.size = P at xw hne ⊢
      generalize wr.alloc (.cells #[.string ⟨#[39, 119, 97, 115, 109, 45, 117, 110, 115, 97, 102, 101, 45, 101, 118, 97, 108, 39]⟩, .int .i64 5] 58) = w2 at xw x2 B2 ⊢
      clear ar hb al
      obtain ⟨C, hC⟩ : ∃ C : World → Prop, ∀ w', C w' ↔ (CX w' B k t s h b p pa L ∧ WX w' P ⟨#[39, 119, 97, 115, 109, 45, 117, 110, 115, 97, 102, 101, 45, 101, 118, 97, 108, 39]⟩ 5 ∧ Below B w w') := ⟨_, fun _ => Iff.rfl⟩
      have HC := Lib.hid hC
      clear hC
      have hC0 : C w2.drew := (HC.out _).2 (⟨x2, xw, B2.drew⟩)
      have HK : Hid (∀ w', C w' → ∀ w7, Below w'.heap.size w' w7 → C w7) := Lib.hid fun w' hc w7 b => by
        obtain ⟨x7, y7, K7⟩ := (HC.out w').1 hc
        exact (HC.out _).2 ⟨x7.below b, y7.below b, K7.trans (b.mono (Nat.le_of_lt x7.lt))⟩
      refine region_class C (by kernel_rfl) (by kernel_rfl) hC0 ?_
      clear hC0
      repeat
        first
          | go_big_quiet_skip
          | (go_big_quiet_want; go_big_quiet_op; go_big_quiet_on)
          | (refine BigFrame.wpQuiet_want rfl (fun K hK => ?_)
             apply Exists.intro
             refine ⟨fun w' hc => ?_, hK _ ?_⟩
             · obtain ⟨x7, y7, K7⟩ := (HC.out w').1 hc
               have d7 := x7.c7
               have e0 := y7.c0
               unfold Oper.quietAt
               go_simp
               first
                 | done
                 | rfl
                 | ((with_reducible refine (CS.out _).mono ?_); rintro e w7 ⟨rfl, b7⟩; exact ⟨rfl, HK.out w' hc w7 b7⟩)
             clear hK K
             simp only [Act.put, List.setIfInBounds_toArray, List.set_cons_zero, List.set_cons_succ])
      refine wpQuiet_nil ?_
      intro w3 hc
      obtain ⟨xw3, yw3, Kw3⟩ := (HC.out w3).1 hc
      clear hc HC HK

      clear xw x2 B2
      have d7 := xw3.c7
      have e1 := yw3.c1
      have f0 := xw3.free 0
      have a3 := xw3.set0 5
      have B3 := Kw3.setCell (p := ⟨B, 0, none⟩) (Nat.le_refl _) (.int .i64 5)
      have d0 := xw3.c0
      cases r
      · have HN2 : Hid (∀ z : Int, 1 ≤ z → z ≤ (5 : Nat) → low L.data.toList ≠ keptM z) := Lib.hid (by
          intro z h1 h2 e
          by_cases h3 : z ≤ 4
          · exact HN.out z h1 (by simpa using h3) e
          · have : z = 5 := by omega
            subst this
            exact absurd e (of_decide_eq_false HR.out))
        clear HN HR a3 B3
        go_wp2
        go_roundw
        case rel => exact ⟨5, by decide, rfl, HN2, xw3, Kw3⟩
        case measure => decide
      · have HE : Hid (keptO L.data.toList = some 5) := Lib.hid (kept_at5 (fun z h1 h2 => HN.out z h1 (by simpa using h2)) (of_decide_eq_true HR.out))
        clear HN HR
        go_wp2
        go_ret
        exact ⟨_, rfl, .inl ⟨_, HE.out, rfl, a3⟩, B3⟩
    · have ix := kidx5
      obtain ⟨r, hr⟩ : ∃ r, decide (low L.data.toList = low (⟨#[39, 115, 116, 114, 105, 99, 116, 45, 100, 121, 110, 97, 109, 105, 99, 39]⟩ : ByteArray).data.toList) = r := ⟨_, rfl⟩
      have CS := CS5 r hr
      have HR : Hid (decide (low L.data.toList = keptM 6) = r) := Lib.hid hr
      clear CS0 CS1 CS2 CS3 CS4 CS5 CS6 CS7 hr
      go_wp2
      have xw := WX.made wr ⟨#[39, 115, 116, 114, 105, 99, 116, 45, 100, 121, 110, 97, 109, 105, 99, 39]⟩ 6
      have al : Below wr.heap.size wr (wr.alloc (.cells #[.string ⟨#[39, 115, 116, 114, 105, 99, 116, 45, 100, 121, 110, 97, 109, 105, 99, 39]⟩, .int .i64 6] 58)) := (Below.refl _ _).alloc (Nat.le_refl _) _
      have x2 := ar.below al
      have B2 := hb.trans (al.mono (Nat.le_of_lt ar.lt))
      have hne : wr.heap.size ≠ B := by have := ar.lt; omega
      generalize wr.heap.size = P at xw hne ⊢
      generalize wr.alloc (.cells #[.string ⟨#[39, 115, 116, 114, 105, 99, 116, 45, 100, 121, 110, 97, 109, 105, 99, 39]⟩, .int .i64 6] 58) = w2 at xw x2 B2 ⊢
      clear ar hb al
      obtain ⟨C, hC⟩ : ∃ C : World → Prop, ∀ w', C w' ↔ (CX w' B k t s h b p pa L ∧ WX w' P ⟨#[39, 115, 116, 114, 105, 99, 116, 45, 100, 121, 110, 97, 109, 105, 99, 39]⟩ 6 ∧ Below B w w') := ⟨_, fun _ => Iff.rfl⟩
      have HC := Lib.hid hC
      clear hC
      have hC0 : C w2.drew := (HC.out _).2 (⟨x2, xw, B2.drew⟩)
      have HK : Hid (∀ w', C w' → ∀ w7, Below w'.heap.size w' w7 → C w7) := Lib.hid fun w' hc w7 b => by
        obtain ⟨x7, y7, K7⟩ := (HC.out w').1 hc
        exact (HC.out _).2 ⟨x7.below b, y7.below b, K7.trans (b.mono (Nat.le_of_lt x7.lt))⟩
      refine region_class C (by kernel_rfl) (by kernel_rfl) hC0 ?_
      clear hC0
      repeat
        first
          | go_big_quiet_skip
          | (go_big_quiet_want; go_big_quiet_op; go_big_quiet_on)
          | (refine BigFrame.wpQuiet_want rfl (fun K hK => ?_)
             apply Exists.intro
             refine ⟨fun w' hc => ?_, hK _ ?_⟩
             · obtain ⟨x7, y7, K7⟩ := (HC.out w').1 hc
               have d7 := x7.c7
               have e0 := y7.c0
               unfold Oper.quietAt
               go_simp
               first
                 | done
                 | rfl
                 | ((with_reducible refine (CS.out _).mono ?_); rintro e w7 ⟨rfl, b7⟩; exact ⟨rfl, HK.out w' hc w7 b7⟩)
             clear hK K
             simp only [Act.put, List.setIfInBounds_toArray, List.set_cons_zero, List.set_cons_succ])
      refine wpQuiet_nil ?_
      intro w3 hc
      obtain ⟨xw3, yw3, Kw3⟩ := (HC.out w3).1 hc
      clear hc HC HK

      clear xw x2 B2
      have d7 := xw3.c7
      have e1 := yw3.c1
      have f0 := xw3.free 0
      have a3 := xw3.set0 6
      have B3 := Kw3.setCell (p := ⟨B, 0, none⟩) (Nat.le_refl _) (.int .i64 6)
      have d0 := xw3.c0
      cases r
      · have HN2 : Hid (∀ z : Int, 1 ≤ z → z ≤ (6 : Nat) → low L.data.toList ≠ keptM z) := Lib.hid (by
          intro z h1 h2 e
          by_cases h3 : z ≤ 5
          · exact HN.out z h1 (by simpa using h3) e
          · have : z = 6 := by omega
            subst this
            exact absurd e (of_decide_eq_false HR.out))
        clear HN HR a3 B3
        go_wp2
        go_roundw
        case rel => exact ⟨6, by decide, rfl, HN2, xw3, Kw3⟩
        case measure => decide
      · have HE : Hid (keptO L.data.toList = some 6) := Lib.hid (kept_at6 (fun z h1 h2 => HN.out z h1 (by simpa using h2)) (of_decide_eq_true HR.out))
        clear HN HR
        go_wp2
        go_ret
        exact ⟨_, rfl, .inl ⟨_, HE.out, rfl, a3⟩, B3⟩
    · have ix := kidx6
      obtain ⟨r, hr⟩ : ∃ r, decide (low L.data.toList = low (⟨#[39, 117, 110, 115, 97, 102, 101, 45, 104, 97, 115, 104, 101, 115, 39]⟩ : ByteArray).data.toList) = r := ⟨_, rfl⟩
      have CS := CS6 r hr
      have HR : Hid (decide (low L.data.toList = keptM 7) = r) := Lib.hid hr
      clear CS0 CS1 CS2 CS3 CS4 CS5 CS6 CS7 hr
      go_wp2
      have xw := WX.made wr ⟨#[39, 117, 110, 115, 97, 102, 101, 45, 104, 97, 115, 104, 101, 115, 39]⟩ 7
      have al : Below wr.heap.size wr (wr.alloc (.cells #[.string ⟨#[39, 117, 110, 115, 97, 102, 101, 45, 104, 97, 115, 104, 101, 115, 39]⟩, .int .i64 7] 58)) := (Below.refl _ _).alloc (Nat.le_refl _) _
      have x2 := ar.below al
      have B2 := hb.trans (al.mono (Nat.le_of_lt ar.lt))
      have hne : wr.heap.size ≠ B := by have := ar.lt; omega
      generalize wr.heap.size = P at xw hne ⊢
      generalize wr.alloc (.cells #[.string ⟨#[39, 117, 110, 115, 97, 102, 101, 45, 104, 97, 115, 104, 101, 115, 39]⟩, .int .i64 7] 58) = w2 at xw x2 B2 ⊢
      clear ar hb al
      obtain ⟨C, hC⟩ : ∃ C : World → Prop, ∀ w', C w' ↔ (CX w' B k t s h b p pa L ∧ WX w' P ⟨#[39, 117, 110, 115, 97, 102, 101, 45, 104, 97, 115, 104, 101, 115, 39]⟩ 7 ∧ Below B w w') := ⟨_, fun _ => Iff.rfl⟩
      have HC := Lib.hid hC
      clear hC
      have hC0 : C w2.drew := (HC.out _).2 (⟨x2, xw, B2.drew⟩)
      have HK : Hid (∀ w', C w' → ∀ w7, Below w'.heap.size w' w7 → C w7) := Lib.hid fun w' hc w7 b => by
        obtain ⟨x7, y7, K7⟩ := (HC.out w').1 hc
        exact (HC.out _).2 ⟨x7.below b, y7.below b, K7.trans (b.mono (Nat.le_of_lt x7.lt))⟩
      refine region_class C (by kernel_rfl) (by kernel_rfl) hC0 ?_
      clear hC0
      repeat
        first
          | go_big_quiet_skip
          | (go_big_quiet_want; go_big_quiet_op; go_big_quiet_on)
          | (refine BigFrame.wpQuiet_want rfl (fun K hK => ?_)
             apply Exists.intro
             refine ⟨fun w' hc => ?_, hK _ ?_⟩
             · obtain ⟨x7, y7, K7⟩ := (HC.out w').1 hc
               have d7 := x7.c7
               have e0 := y7.c0
               unfold Oper.quietAt
               go_simp
               first
                 | done
                 | rfl
                 | ((with_reducible refine (CS.out _).mono ?_); rintro e w7 ⟨rfl, b7⟩; exact ⟨rfl, HK.out w' hc w7 b7⟩)
             clear hK K
             simp only [Act.put, List.setIfInBounds_toArray, List.set_cons_zero, List.set_cons_succ])
      refine wpQuiet_nil ?_
      intro w3 hc
      obtain ⟨xw3, yw3, Kw3⟩ := (HC.out w3).1 hc
      clear hc HC HK

      clear xw x2 B2
      have d7 := xw3.c7
      have e1 := yw3.c1
      have f0 := xw3.free 0
      have a3 := xw3.set0 7
      have B3 := Kw3.setCell (p := ⟨B, 0, none⟩) (Nat.le_refl _) (.int .i64 7)
      have d0 := xw3.c0
      cases r
      · have HN2 : Hid (∀ z : Int, 1 ≤ z → z ≤ (7 : Nat) → low L.data.toList ≠ keptM z) := Lib.hid (by
          intro z h1 h2 e
          by_cases h3 : z ≤ 6
          · exact HN.out z h1 (by simpa using h3) e
          · have : z = 7 := by omega
            subst this
            exact absurd e (of_decide_eq_false HR.out))
        clear HN HR a3 B3
        go_wp2
        go_roundw
        case rel => exact ⟨7, by decide, rfl, HN2, xw3, Kw3⟩
        case measure => decide
      · have HE : Hid (keptO L.data.toList = some 7) := Lib.hid (kept_at7 (fun z h1 h2 => HN.out z h1 (by simpa using h2)) (of_decide_eq_true HR.out))
        clear HN HR
        go_wp2
        go_ret
        exact ⟨_, rfl, .inl ⟨_, HE.out, rfl, a3⟩, B3⟩
    · have ix := kidx7
      obtain ⟨r, hr⟩ : ∃ r, decide (low L.data.toList = low (⟨#[39, 114, 101, 112, 111, 114, 116, 45, 115, 97, 109, 112, 108, 101, 39]⟩ : ByteArray).data.toList) = r := ⟨_, rfl⟩
      have CS := CS7 r hr
      have HR : Hid (decide (low L.data.toList = keptM 8) = r) := Lib.hid hr
      clear CS0 CS1 CS2 CS3 CS4 CS5 CS6 CS7 hr
      go_wp2
      have xw := WX.made wr ⟨#[39, 114, 101, 112, 111, 114, 116, 45, 115, 97, 109, 112, 108, 101, 39]⟩ 8
      have al : Below wr.heap.size wr (wr.alloc (.cells #[.string ⟨#[39, 114, 101, 112, 111, 114, 116, 45, 115, 97, 109, 112, 108, 101, 39]⟩, .int .i64 8] 58)) := (Below.refl _ _).alloc (Nat.le_refl _) _
      have x2 := ar.below al
      have B2 := hb.trans (al.mono (Nat.le_of_lt ar.lt))
      have hne : wr.heap.size ≠ B := by have := ar.lt; omega
      generalize wr.heap.size = P at xw hne ⊢
      generalize wr.alloc (.cells #[.string ⟨#[39, 114, 101, 112, 111, 114, 116, 45, 115, 97, 109, 112, 108, 101, 39]⟩, .int .i64 8] 58) = w2 at xw x2 B2 ⊢
      clear ar hb al
      obtain ⟨C, hC⟩ : ∃ C : World → Prop, ∀ w', C w' ↔ (CX w' B k t s h b p pa L ∧ WX w' P ⟨#[39, 114, 101, 112, 111, 114, 116, 45, 115, 97, 109, 112, 108, 101, 39]⟩ 8 ∧ Below B w w') := ⟨_, fun _ => Iff.rfl⟩
      have HC := Lib.hid hC
      clear hC
      have hC0 : C w2.drew := (HC.out _).2 (⟨x2, xw, B2.drew⟩)
      have HK : Hid (∀ w', C w' → ∀ w7, Below w'.heap.size w' w7 → C w7) := Lib.hid fun w' hc w7 b => by
        obtain ⟨x7, y7, K7⟩ := (HC.out w').1 hc
        exact (HC.out _).2 ⟨x7.below b, y7.below b, K7.trans (b.mono (Nat.le_of_lt x7.lt))⟩
      refine region_class C (by kernel_rfl) (by kernel_rfl) hC0 ?_
      clear hC0
      repeat
        first
          | go_big_quiet_skip
          | (go_big_quiet_want; go_big_quiet_op; go_big_quiet_on)
          | (refine BigFrame.wpQuiet_want rfl (fun K hK => ?_)
             apply Exists.intro
             refine ⟨fun w' hc => ?_, hK _ ?_⟩
             · obtain ⟨x7, y7, K7⟩ := (HC.out w').1 hc
               have d7 := x7.c7
               have e0 := y7.c0
               unfold Oper.quietAt
               go_simp
               first
                 | done
                 | rfl
                 | ((with_reducible refine (CS.out _).mono ?_); rintro e w7 ⟨rfl, b7⟩; exact ⟨rfl, HK.out w' hc w7 b7⟩)
             clear hK K
             simp only [Act.put, List.setIfInBounds_toArray, List.set_cons_zero, List.set_cons_succ])
      refine wpQuiet_nil ?_
      intro w3 hc
      obtain ⟨xw3, yw3, Kw3⟩ := (HC.out w3).1 hc
      clear hc HC HK

      clear xw x2 B2
      have d7 := xw3.c7
      have e1 := yw3.c1
      have f0 := xw3.free 0
      have a3 := xw3.set0 8
      have B3 := Kw3.setCell (p := ⟨B, 0, none⟩) (Nat.le_refl _) (.int .i64 8)
      have d0 := xw3.c0
      cases r
      · have HN2 : Hid (∀ z : Int, 1 ≤ z → z ≤ (8 : Nat) → low L.data.toList ≠ keptM z) := Lib.hid (by
          intro z h1 h2 e
          by_cases h3 : z ≤ 7
          · exact HN.out z h1 (by simpa using h3) e
          · have : z = 8 := by omega
            subst this
            exact absurd e (of_decide_eq_false HR.out))
        clear HN HR a3 B3
        go_wp2
        go_roundw
        case rel => exact ⟨8, by decide, rfl, HN2, xw3, Kw3⟩
        case measure => decide
      · have HE : Hid (keptO L.data.toList = some 8) := Lib.hid (kept_at8 (fun z h1 h2 => HN.out z h1 (by simpa using h2)) (of_decide_eq_true HR.out))
        clear HN HR
        go_wp2
        go_ret
        exact ⟨_, rfl, .inl ⟨_, HE.out, rfl, a3⟩, B3⟩
    · have HE : Hid (keptO L.data.toList = none) := Lib.hid (kept_none fun z h1 h2 => HN.out z h1 (by simpa using h2))
      clear HN CS0 CS1 CS2 CS3 CS4 CS5 CS6 CS7
      go_wp2
      go_ret
      exact ⟨_, rfl, .inr ⟨HE.out, rfl, ar⟩, hb⟩

end Go.Proofs.YtmfejcmhbncchaaGreatDoor
