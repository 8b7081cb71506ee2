/- What a policy's text has. -/
import Derived.Test.YtmlanlagnhnppaaDoorLawHA
import Derived.Test.YtmlanlagnhnppaaDoorRefHF
namespace Go.Proofs.YtmlanlagnhnppaaDoor
open Go.RowKit

theorem pols_new {W : World} {dv : Value} {ds : List D} (h : DirsIn W dv ds) (r : Bool) : PolsIn (W.alloc (.cells #[dv, .bool r] 29)) (.slice (some ⟨W.heap.size, 0, none⟩) 1 1) [(ds, r)] := by
  refine .inr ⟨W.heap.size, 0, 1, rfl, fun j hj => ?_⟩
  obtain rfl : j = 0 := by simp at hj; omega
  rw [Nat.zero_add, World.cell?_alloc_mark, World.cell?_alloc_mark]
  exact ⟨⟨dv, rfl, h.below ((Below.refl _ _).alloc (Nat.le_refl _) _)⟩, rfl⟩
theorem big_any (ds : List D) (dv : Value) (r : Bool) (W : World) (hd : DirsIn W dv ds) (hl : ds.length ≤ 9223372036854775807) (hw : ∀ d ∈ ds, d.w.length ≤ 9223372036854775807) :
    Calls Tryd.prog 13 #[.slice (some ⟨W.heap.size, 0, none⟩) 1 1] (W.alloc (.cells #[dv, .bool r] 29)) fun e w' => ∃ b, e = .returned (.bool b) ∧ W.alloc (.cells #[dv, .bool r] 29) = w' ∧ (b = false → SmallP ds) :=
  (refBig8_any [(ds, r)] _ _ (pols_new hd r) (by simp) (by intro p hp; rw [List.mem_singleton.1 hp]; exact ⟨hl, hw⟩)).mono fun e w' h => by
    obtain ⟨b, h1, h2, h3⟩ := h
    exact ⟨b, h1, h2.symm, fun hb => (h3 hb).2 (ds, r) (by simp)⟩
/-- What is small enough for every walk. -/
theorem small_all {ds : List D} (h : SmallP ds) : ds.length ≤ 1000000 ∧ (∀ d ∈ ds, d.n.length ≤ 1000000000 ∧ d.w.length ≤ 1000000 ∧ ∀ x ∈ d.w, x.length ≤ 1000000000) ∧ (pT ds).length ≤ 2000000 := by
  obtain ⟨h1, h2⟩ := h
  refine ⟨by omega, fun d hd => ?_, ?_⟩
  · obtain ⟨k1, k2, k3⟩ := h2 d hd
    exact ⟨by omega, by omega, fun x hx => by have := k3 x hx; omega⟩
  · have h3 : ∀ d ∈ ds, (dT d).length ≤ 64000 := fun d hd => by
      obtain ⟨k1, k2, k3⟩ := h2 d hd
      show (d.n ++ tailT d.w).length ≤ _
      rw [List.length_append, tail_len]
      have h4 : ∀ (L : List (List UInt8)), (∀ x ∈ L, x.length ≤ 300) → (L.map List.length).sum ≤ L.length * 300 := by
        intro L
        induction L with
        | nil => intro _; simp
        | cons x L ih =>
          intro h
          have h5 := ih (fun y hy => h y (by simp [hy]))
          have h6 := h x (by simp)
          simp only [List.map_cons, List.sum_cons, List.length_cons]
          omega
      have := h4 d.w k3
      omega
    have h4 := pT_le 64000 ds h3
    have h5 : ds.length * (64000 + 2) ≤ 20 * (64000 + 2) := Nat.mul_le_mul_right _ h1
    omega
theorem count_step {l : List UInt8} {k : Nat} (h : k < l.length) (c : UInt8) : (l.take (k + 1)).count c = (l.take k).count c + if l[k] == c then 1 else 0 := by
  rw [List.take_succ_eq_append_getElem h, List.count_append, List.count_singleton]

set_option maxRecDepth 100000 in
set_option maxHeartbeats 8000000 in
theorem text_law (ds : List D) (dv : Value) (r : Bool) (w : World) (hd : DirsIn w dv ds) (hl : ds.length ≤ 9223372036854775807) (hw : ∀ d ∈ ds, d.w.length ≤ 9223372036854775807) (hm : MaxIn w) : Calls Tryd.prog 8 #[polV dv r] w fun e w' => e = .returned (.bool true) ∧ Below w.heap.size w w' := by
  obtain ⟨a, c, rfl⟩ := hd.form
  have bA : Below w.heap.size w (w.alloc (.cells #[.slice a ds.length c, .bool r] 29)) := (Below.refl _ _).alloc (Nat.le_refl _) _
  have xA := new_block w (.cells #[.slice a ds.length c, .bool r] 29)
  have CB := big_any ds _ r _ (hd.below bA) hl hw
  rw [show (w.alloc (.cells #[.slice a ds.length c, .bool r] 29)).heap.size = w.heap.size + 1 from (by show (w.heap.push _).size = _; simp)] at CB
  have q0 : (w.alloc (.cells #[.slice a ds.length c, .bool r] 29)).cell? ⟨w.heap.size, 0, none⟩ = some (.slice a ds.length c) := by rw [cell_of xA]; rfl
  have q1 : (w.alloc (.cells #[.slice a ds.length c, .bool r] 29)).cell? ⟨w.heap.size, 1, none⟩ = some (.bool r) := by rw [cell_of xA]; rfl
  unfold polV
  have HCB := Lib.hid CB
  have H1 := Lib.hid (And.intro xA bA)
  have HD := Lib.hid hd
  have HM := Lib.hid hm
  clear bA xA CB hd hw hm
  go_enter Tryd.func8, Tryd.ntmps8
  go_wp2_with fail
  generalize w.alloc (.cells #[.slice a ds.length c, .bool r] 29) = w1 at HCB H1 q0 q1 ⊢
  with_reducible refine HCB.out.mono ?_
  rintro e w2 ⟨b, rfl, hw2, hb⟩
  have b2 : Below w1.heap.size w1 w2 := by rw [← hw2]; exact (Below.refl _ _).alloc (Nat.le_refl _) _
  have x2 : w2.heap[w.heap.size]? = some (.cells #[.slice a ds.length c, .bool r] 29 (0, 0)) := by rw [b2.block _ (lt_of_block H1.out.1)]; exact H1.out.1
  have H2 := Lib.hid (And.intro x2 (H1.out.2.trans (b2.mono H1.out.2.size)))
  have p0 : w2.cell? ⟨w.heap.size, 0, none⟩ = some (.slice a ds.length c) := by rw [cell_of x2]; rfl
  have p1 : w2.cell? ⟨w.heap.size, 1, none⟩ = some (.bool r) := by rw [cell_of x2]; rfl
  clear b2 x2 q0 q1 H1 HCB hw2
  cases b
  case true =>
    clear hb
    go_wp2
    go_ret
    exact ⟨rfl, H2.out.2⟩
  have hsm := hb rfl
  obtain ⟨s1, s2, s3⟩ := small_all hsm
  clear hb hsm
  by_cases hr : rightH ds
  · obtain ⟨T, hT⟩ := text_of (pT ds)
    have CP : Hid (∀ W dv, DirsIn W dv ds → Calls Tryd.prog 17 #[polV dv r] W fun e w' => e = .returned (.tuple #[.string T, .bool true]) ∧ Below W.heap.size W w') := Lib.hid (fun W dv h => print_right ds hr dv r W h s1 s2 (by omega) T hT)
    have hTs : T.size ≤ 2000000 := by rw [← lsize, hT]; exact s3
    have HNC : Hid (∀ b ∈ T.data.toList, (b == 44) = false) := Lib.hid (by rw [hT]; exact pT_mem hr.2.1)
    have HCT : Hid (T.data.toList.count 59 + 1 = ds.length) := Lib.hid (by rw [hT]; exact pT_count hr.1 hr.2.1)
    obtain ⟨d0, dr, rfl⟩ := List.exists_cons_of_ne_nil hr.1
    obtain ⟨rest, hrest⟩ := pT_name (d := d0) (ds := dr)
    have HPRE : Hid (T.data.toList = d0.n ++ rest) := Lib.hid (by rw [hT, hrest])
    have HLL := Lib.hid (lsize T)
    clear hT hrest hr s2 s3
    have CP2 := Lib.hid (CP.out w2 (.slice a (d0 :: dr).length c) (HD.out.below H2.out.2))
    unfold polV at CP2
    go_wp2_with fail
    refine CP2.out.mono ?_
    rintro e w3 ⟨rfl, b3⟩
    have x3 : w3.heap[w.heap.size]? = some (.cells #[.slice a (d0 :: dr).length c, .bool r] 29 (0, 0)) := by rw [b3.block _ (lt_of_block H2.out.1)]; exact H2.out.1
    have H3 := Lib.hid (H2.out.2.trans (b3.mono H2.out.2.size))
    have r0 : w3.cell? ⟨w.heap.size, 0, none⟩ = some (.slice a (d0 :: dr).length c) := by rw [cell_of x3]; rfl
    obtain ⟨B, off, u, rfl, k1, _, _⟩ := (HD.out.below H3.out).at (j := 0) (by simp)
    obtain ⟨F, hF⟩ : ∃ F : ByteArray, F = ⟨d0.n.toArray⟩ := ⟨_, rfl⟩
    have hFd : F.data.toList = d0.n := by rw [hF]
    have k2 : w3.cell? ⟨B, off, none⟩ = some (.string F) := by have := k1; rw [hF]; simpa [strV] using this
    have hFl : F.size ≤ T.size := by
      rw [← lsize F, ← HLL.out, hFd, HPRE.out, List.length_append]; omega
    obtain ⟨P, hP⟩ : ∃ P : ByteArray, P = T.extract 0 F.size := ⟨_, rfl⟩
    have hPd : P.data.toList = F.data.toList := by
      rw [hP, extract_toList, List.drop_zero, Nat.sub_zero, HPRE.out, hFd, ← lsize F, hFd, List.take_left]
    have gP : (P.toList == F.toList) = true := by rw [text_eq, hPd]; simp
    have slP : ∀ W, (Instr.slice 9 (.string T) none (some (.int .i64 (F.size : Int))) none).run Tryd.prog W = .ok (.string P) W := fun W => by
      rw [hP]
      simp [Instr.slice, run_underlying Tryd.underlying9, Instr.sliceBounds, run_sliceBound, hFl]
    have hlenc : (d0 :: dr).length ≤ 1000000 := s1
    generalize hm5 : (d0 :: dr).length = m at r0 HCT hlenc ⊢
    have HM5 := Lib.hid hm5
    have HM3 := Lib.hid (HM.out.below H3.out)
    clear b3 x3 k1 hF hFd hP hPd p0 p1 CP CP2 H2 hm5 hl s1
    go_wp2_with fail
    go_loop [5, 6] (fun n i => ∃ k : Nat, k ≤ T.size ∧ i = .int .i64 k ∧ n = .int .i64 (((T.data.toList.take k).count 59 + 1 : Nat) : Int)) (fun _ i => T.size - (intOf i).toNat)
    case atStart => exact ⟨0, Nat.zero_le _, rfl, rfl⟩
    case round =>
      obtain ⟨k, hk, rfl, rfl⟩ := hrel
      by_cases hlt : k < T.size
      · have hkl : k < T.data.toList.length := by rw [HLL.out]; exact hlt
        have HST : Hid ((T.data.toList.take (k + 1)).count 59 = (T.data.toList.take k).count 59 + if T[k] == 59 then 1 else 0) := Lib.hid (count_step hkl 59)
        have hge : T.data.toList[k] = T[k] := rfl
        have hc44 : ((T[k].toNat : Int) == 44) = false := by
          have := HNC.out _ (List.getElem_mem hkl)
          rw [hge] at this
          rw [show (44 : Int) = ((44 : UInt8).toNat : Int) from rfl, int_beq]; exact this
        have hcb := int_beq T[k] 59
        rw [show (((59 : UInt8).toNat : Nat) : Int) = 59 from rfl] at hcb
        have hbound : (T.data.toList.take k).count 59 ≤ 2000000 := by
          have h1 := List.count_le_length (a := (59 : UInt8)) (l := T.data.toList.take k)
          rw [List.length_take] at h1
          have h2 := HLL.out
          omega
        clear hge
        cases hb : (T[k] == 59)
        · rw [hb] at hcb HST
          have HS2 : Hid ((T.data.toList.take (k + 1)).count 59 = (T.data.toList.take k).count 59) := Lib.hid (by rw [HST.out]; rfl)
          generalize hq : (T.data.toList.take k).count 59 = q at *
          clear hb HST
          go_wp2
          go_round
          case rel => exact ⟨k + 1, by omega, by go_num, by rw [HS2.out]⟩
          case measure => simp [intOf]; omega
        · rw [hb] at hcb HST
          have HS2 : Hid ((T.data.toList.take (k + 1)).count 59 = (T.data.toList.take k).count 59 + 1) := Lib.hid (by rw [HST.out]; rfl)
          generalize hq : (T.data.toList.take k).count 59 = q at *
          clear hb HST
          go_wp2
          go_round
          case rel => exact ⟨k + 1, by omega, by go_num, by rw [HS2.out]; go_num⟩
          case measure => simp [intOf]; omega
      · obtain rfl : k = T.size := by omega
        have HCM : Hid ((T.data.toList.take T.size).count 59 + 1 = m) := Lib.hid (by rw [take_all]; exact HCT.out)
        obtain ⟨z, hz⟩ : ∃ z, (T.data.toList.take T.size).count 59 + 1 = z := ⟨_, rfl⟩
        rw [hz] at HCM ⊢
        obtain rfl := HCM.out
        have gm : ((z : Int) != (z : Int)) = false := by simp
        have hz0 : 0 < z := by have := HM5.out; rw [List.length_cons] at this; omega
        have hz1 : (0 : Int) < (z : Int) := by omega
        clear HCM HNC HPRE HCT HLL hz
        go_wp2_with fail
        refine (reads_hid.out _ HM3.out).mono ?_
        rintro e w4 ⟨rfl, b4⟩
        have HB := Lib.hid (H3.out.trans (b4.mono H3.out.size))
        have gle : (F.size : Int) ≤ (T.size : Int) := by omega
        clear b4
        go_wp2
        go_ret
        exact ⟨rfl, HB.out⟩
  · have CP := print_wrong ds hr (.slice a ds.length c) r w2 (HD.out.below H2.out.2) s1 s2
    unfold polV at CP
    have HCP := Lib.hid CP
    have HM2 := Lib.hid (HM.out.below H2.out.2)
    clear CP hr s2 s3
    go_wp2_with fail
    refine HCP.out.mono ?_
    rintro e w3 ⟨rfl, b3⟩
    have H3 := Lib.hid (And.intro (HM2.out.below b3) (H2.out.2.trans (b3.mono H2.out.2.size)))
    clear b3
    go_wp2_with fail
    refine (reads_hid.out _ H3.out.1).mono ?_
    rintro e w4 ⟨rfl, b4⟩
    have HB := Lib.hid (H3.out.2.trans (b4.mono H3.out.2.size))
    clear b4
    go_wp2
    go_ret
    exact ⟨rfl, HB.out⟩

end Go.Proofs.YtmlanlagnhnppaaDoor
