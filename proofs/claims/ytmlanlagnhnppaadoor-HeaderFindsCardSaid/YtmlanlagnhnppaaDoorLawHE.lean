/- What a name has in a policy, and the policy's text. -/
import Derived.Test.YtmlanlagnhnppaaDoorLawHC
import Derived.Test.YtmlanlagnhnppaaDoorRefHH
import Derived.Test.YtmlanlagnhnppaaDoorHdH
namespace Go.Proofs.YtmlanlagnhnppaaDoor
open Go.RowKit

set_option maxRecDepth 100000 in
set_option maxHeartbeats 16000000 in
theorem finds_law (ds : List D) (dv : Value) (r : Bool) (name : ByteArray) (w : World) (hd : DirsIn w dv ds) (hl : ds.length ≤ 9223372036854775807) (hw : ∀ d ∈ ds, d.w.length ≤ 9223372036854775807) (hm : MaxIn w) : Calls Tryd.prog 4 #[polV dv r, .string name] w fun e w' => e = .returned (.bool true) ∧ Below w.heap.size w w' := by
  obtain ⟨a, c, rfl⟩ := hd.form
  have bA : Below w.heap.size w (w.alloc (.cells #[.slice a ds.length c, .bool r] 29)) := (Below.refl _ _).alloc (Nat.le_refl _) _
  have xA := new_block w (.cells #[.slice a ds.length c, .bool r] 29)
  have CB := big_any ds _ r _ (hd.below bA) hl hw
  rw [show (w.alloc (.cells #[.slice a ds.length c, .bool r] 29)).heap.size = w.heap.size + 1 from (by show (w.heap.push _).size = _; simp)] at CB
  have q0 : (w.alloc (.cells #[.slice a ds.length c, .bool r] 29)).cell? ⟨w.heap.size, 0, none⟩ = some (.slice a ds.length c) := by rw [cell_of xA]; rfl
  have q1 : (w.alloc (.cells #[.slice a ds.length c, .bool r] 29)).cell? ⟨w.heap.size, 1, none⟩ = some (.bool r) := by rw [cell_of xA]; rfl
  unfold polV
  have HCB := Lib.hid CB
  have H1 := Lib.hid (And.intro xA bA)
  have HD := Lib.hid hd
  have HM := Lib.hid hm
  clear bA xA CB hd hw hm
  go_enter Tryd.func4, Tryd.ntmps4
  go_wp2_with fail
  generalize w.alloc (.cells #[.slice a ds.length c, .bool r] 29) = w1 at HCB H1 q0 q1 ⊢
  with_reducible refine HCB.out.mono ?_
  rintro e w2 ⟨b, rfl, hw2, hb⟩
  have b2 : Below w1.heap.size w1 w2 := by rw [← hw2]; exact (Below.refl _ _).alloc (Nat.le_refl _) _
  have x2 : w2.heap[w.heap.size]? = some (.cells #[.slice a ds.length c, .bool r] 29 (0, 0)) := by rw [b2.block _ (lt_of_block H1.out.1)]; exact H1.out.1
  have H2 := Lib.hid (And.intro x2 (H1.out.2.trans (b2.mono H1.out.2.size)))
  have p0 : w2.cell? ⟨w.heap.size, 0, none⟩ = some (.slice a ds.length c) := by rw [cell_of x2]; rfl
  have p1 : w2.cell? ⟨w.heap.size, 1, none⟩ = some (.bool r) := by rw [cell_of x2]; rfl
  clear b2 x2 q0 q1 H1 HCB hw2
  cases b
  case true =>
    clear hb
    go_wp2
    go_ret
    exact ⟨rfl, H2.out.2⟩
  have hsm := hb rfl
  obtain ⟨s1, s2, s3⟩ := small_all hsm
  have HS := Lib.hid hsm
  clear hb hsm
  by_cases hbig : (300 : Int) < (name.size : Int)
  · go_wp2
    go_ret
    exact ⟨rfl, H2.out.2⟩
  have hname : name.size ≤ 300 := by omega
  obtain ⟨L, hL⟩ : ∃ L, (findM ds name.data.toList).getD [] = L := ⟨_, rfl⟩
  obtain ⟨fd, hfd⟩ : ∃ fd, (findM ds name.data.toList).isSome = fd := ⟨_, rfl⟩
  obtain ⟨q, hq⟩ : ∃ q, L.length = q := ⟨_, rfl⟩
  have hq2 : q ≤ 1000000 := by
    rw [← hq, ← hL]
    unfold findM
    cases hf : ds.find? (fun d => d.n == low name.data.toList) with
    | none => simp
    | some d => simpa using (s2 d (List.mem_of_find?_eq_some hf)).2.1
  have CF : Hid (∀ W dv, DirsIn W dv ds → Calls Tryd.prog 15 #[polV dv r, .string name] W fun e w' => (∃ fa fc, e = .returned (.tuple #[.slice fa q fc, .bool fd]) ∧ w'.ownsRow W.heap.size 9 1 (.slice fa q fc) q (txtCells L)) ∧ Below W.heap.size W w') := Lib.hid (fun W dv h =>
    (find_any ds dv r name W h s1 (fun d hd => (s2 d hd).2.1) (by omega)).mono fun e w' hh => by
      obtain ⟨h1, h2⟩ := hh
      refine ⟨?_, h1⟩
      rcases h2 with ⟨h3, rfl⟩ | ⟨ws, v, h3, rfl, h4⟩
      · rw [h3] at hL hfd
        cases hL; cases hfd; cases hq
        exact ⟨none, 0, rfl, World.ownsRow_nil _ _ _ _⟩
      · rw [h3] at hL hfd
        cases hL; cases hfd; cases hq
        obtain ⟨fa, fc, rfl⟩ := (TextsIn.of_row h4).form
        exact ⟨fa, fc, rfl, h4⟩)
  have CR : Hid (∀ W dv, DirsIn W dv ds → Calls Tryd.prog 16 #[polV dv r, .string name] W fun e w' => (∃ ra rc, e = .returned (.tuple #[.slice ra q rc, .bool fd]) ∧ TextsIn w' (.slice ra q rc) L) ∧ Below W.heap.size W w') := Lib.hid (fun W dv h =>
    (refFind_any ds dv r name W h s1 (fun d hd => (s2 d hd).2.1) (by omega)).mono fun e w' hh => by
      obtain ⟨h1, h2⟩ := hh
      refine ⟨?_, h1⟩
      rcases h2 with ⟨h3, rfl⟩ | ⟨ws, v, h3, rfl, h4⟩
      · rw [h3] at hL hfd
        cases hL; cases hfd; cases hq
        exact ⟨none, 0, rfl, .inl ⟨⟨_, _, rfl⟩, rfl⟩⟩
      · rw [h3] at hL hfd
        cases hL; cases hfd; cases hq
        obtain ⟨fa, fc, rfl⟩ := h4.form
        exact ⟨fa, fc, rfl, h4⟩)
  have CTX : Hid (∀ W u v, TextsIn W u L → TextsIn W v L → Calls Tryd.prog 19 #[u, v] W fun e w' => e = .returned (.bool true) ∧ Below W.heap.size W w') := Lib.hid (fun W u v h1 h2 => texts_bool L L true (eqT_self _) u v W h1 h2 (by omega) (by omega))
  have CSAME : Hid (∀ W u v, DirsIn W u ds → DirsIn W v ds → Calls Tryd.prog 20 #[polV u r, polV v r] W fun e w' => e = .returned (.bool true) ∧ Below W.heap.size W w') := Lib.hid (fun W u v h1 h2 => by
    have := refSame_any ds ds r r u v W h1 h2 s1 (fun d hd => (s2 d hd).2.1) (fun d hd => (s2 d hd).2.1)
    rw [decide_eq_true ⟨rfl, rfl⟩] at this
    exact this)
  obtain ⟨T, pr, CP, CQ⟩ : ∃ (T : ByteArray) (pr : Bool), Hid (∀ W dv, DirsIn W dv ds → Calls Tryd.prog 17 #[polV dv r] W fun e w' => e = .returned (.tuple #[.string T, .bool pr]) ∧ Below W.heap.size W w') ∧ Hid (∀ W dv, DirsIn W dv ds → Calls Tryd.prog 18 #[polV dv r] W fun e w' => e = .returned (.tuple #[.string T, .bool pr]) ∧ Below W.heap.size W w') := by
    have s4 : ∀ d ∈ ds, d.w.length ≤ 1000000 ∧ ∀ x ∈ d.w, x.length ≤ 1000000 := fun d hd => by
      obtain ⟨k1, k2, k3⟩ := HS.out.2 d hd
      exact ⟨by omega, fun x hx => by have := k3 x hx; omega⟩
    by_cases hr : rightH ds
    · obtain ⟨T, hT⟩ := text_of (pT ds)
      exact ⟨T, true, Lib.hid fun W dv h => print_right ds hr dv r W h s1 s2 (by omega) T hT, Lib.hid fun W dv h => refPrint_right ds hr dv r W h s1 s4 (by omega) T hT⟩
    · exact ⟨⟨#[]⟩, false, Lib.hid fun W dv h => print_wrong ds hr dv r W h s1 s2, Lib.hid fun W dv h => refPrint_wrong ds hr dv r W h s1 s4⟩
  have CO := refOwn8_any ds (.slice a ds.length c) r w2 (HD.out.below H2.out.2) s1 (fun d hd => (s2 d hd).2.1)
  unfold polV at CO CF CR CSAME CP CQ
  have HCO := Lib.hid CO
  have gfd : (fd == fd) = true := by cases fd <;> rfl
  have gpr : (pr == pr) = true := by cases pr <;> rfl
  have gT : (T.toList == T.toList) = true := by simp
  generalize hm5 : ds.length = m at *
  have HM5 := Lib.hid hm5
  have HQ := Lib.hid hq
  clear hm5 hl s1 s2 s3 HS CO hL hfd hq
  go_wp2_with fail
  refine HCO.out.mono ?_
  rintro e w3 ⟨v, rfl, o3, b3⟩
  obtain ⟨oa, oc, rfl⟩ : ∃ oa oc, v = .slice oa m oc := by
    obtain ⟨x, y, h⟩ := o3.in.form
    exact ⟨x, y, by rw [h, HM5.out]⟩
  have x3 : w3.heap[w.heap.size]? = some (.cells #[.slice a m c, .bool r] 29 (0, 0)) := by rw [b3.block _ (lt_of_block H2.out.1)]; exact H2.out.1
  have H3 := Lib.hid (And.intro x3 (And.intro o3.in (H2.out.2.trans (b3.mono H2.out.2.size))))
  clear p0 p1
  have bN : Below w3.heap.size w3 (w3.alloc (.cells #[.slice oa m oc, .bool r] 29)) := (Below.refl _ _).alloc (Nat.le_refl _) _
  have x4 : (w3.alloc (.cells #[.slice oa m oc, .bool r] 29)).heap[w.heap.size]? = some (.cells #[.slice a m c, .bool r] 29 (0, 0)) := by rw [bN.block _ (lt_of_block x3)]; exact x3
  have y4 := new_block w3 (.cells #[.slice oa m oc, .bool r] 29)
  have H4 := Lib.hid (And.intro x4 (And.intro y4 (And.intro (o3.in.below bN) (H3.out.2.2.trans (bN.mono H3.out.2.2.size)))))
  have p0 : (w3.alloc (.cells #[.slice oa m oc, .bool r] 29)).cell? ⟨w.heap.size, 0, none⟩ = some (.slice a m c) := by rw [cell_of x4]; rfl
  have p1 : (w3.alloc (.cells #[.slice oa m oc, .bool r] 29)).cell? ⟨w.heap.size, 1, none⟩ = some (.bool r) := by rw [cell_of x4]; rfl
  have hsz : w3.heap.size = w3.heap.size := rfl
  obtain ⟨ob, hob⟩ : ∃ ob, w3.heap.size = ob := ⟨_, rfl⟩
  clear x3 o3 b3 H2 HCO H3 bN x4 y4 hsz
  go_wp2_with fail
  generalize w3.alloc (.cells #[.slice oa m oc, .bool r] 29) = w4 at H4 p0 p1 ⊢
  rw [hob] at H4
  clear hob
  refine (CF.out w4 _ (HD.out.below H4.out.2.2.2)).mono ?_
  rintro e w5 ⟨⟨fa, fc, rfl, o5⟩, b5⟩
  have x5 : w5.heap[w.heap.size]? = some (.cells #[.slice a m c, .bool r] 29 (0, 0)) := by rw [b5.block _ (lt_of_block H4.out.1)]; exact H4.out.1
  have y5 : w5.heap[ob]? = some (.cells #[.slice oa m oc, .bool r] 29 (0, 0)) := by rw [b5.block _ (lt_of_block H4.out.2.1)]; exact H4.out.2.1
  have H5 := Lib.hid (And.intro x5 (And.intro y5 (And.intro (H4.out.2.2.1.below b5) (And.intro (H4.out.2.2.2.trans (b5.mono H4.out.2.2.2.size)) (And.intro o5 b5)))))
  clear p0 p1 b5 o5 CF
  have p0 : w5.cell? ⟨ob, 0, none⟩ = some (.slice oa m oc) := by rw [cell_of y5]; rfl
  have p1 : w5.cell? ⟨ob, 1, none⟩ = some (.bool r) := by rw [cell_of y5]; rfl
  clear x5 y5
  go_wp2_with fail
  refine (CR.out w5 _ H5.out.2.2.1).mono ?_
  rintro e w6 ⟨⟨ra, rc, rfl, t6⟩, b6⟩
  have x6 : w6.heap[w.heap.size]? = some (.cells #[.slice a m c, .bool r] 29 (0, 0)) := by rw [b6.block _ (lt_of_block H5.out.1)]; exact H5.out.1
  have y6 : w6.heap[ob]? = some (.cells #[.slice oa m oc, .bool r] 29 (0, 0)) := by rw [b6.block _ (lt_of_block H5.out.2.1)]; exact H5.out.2.1
  have H6 := Lib.hid (And.intro x6 (And.intro y6 (And.intro (H5.out.2.2.1.below b6) (And.intro (H5.out.2.2.2.1.trans (b6.mono H5.out.2.2.2.1.size)) (And.intro (ownsRow_below H5.out.2.2.2.2.1 b6) (And.intro (H5.out.2.2.2.2.2.trans (b6.mono H5.out.2.2.2.2.2.size)) t6))))))
  clear p0 p1 b6 t6 CR
  have p0 : w6.cell? ⟨w.heap.size, 0, none⟩ = some (.slice a m c) := by rw [cell_of x6]; rfl
  have p1 : w6.cell? ⟨w.heap.size, 1, none⟩ = some (.bool r) := by rw [cell_of x6]; rfl
  clear x6 y6
  go_wp2_with fail
  refine (CP.out w6 _ (HD.out.below H6.out.2.2.2.1)).mono ?_
  rintro e w7 ⟨rfl, b7⟩
  have x7 : w7.heap[w.heap.size]? = some (.cells #[.slice a m c, .bool r] 29 (0, 0)) := by rw [b7.block _ (lt_of_block H6.out.1)]; exact H6.out.1
  have y7 : w7.heap[ob]? = some (.cells #[.slice oa m oc, .bool r] 29 (0, 0)) := by rw [b7.block _ (lt_of_block H6.out.2.1)]; exact H6.out.2.1
  have H7 := Lib.hid (And.intro x7 (And.intro y7 (And.intro (H6.out.2.2.1.below b7) (And.intro (H6.out.2.2.2.1.trans (b7.mono H6.out.2.2.2.1.size)) (And.intro (ownsRow_below H6.out.2.2.2.2.1 b7) (And.intro (H6.out.2.2.2.2.2.1.trans (b7.mono H6.out.2.2.2.2.2.1.size)) (H6.out.2.2.2.2.2.2.below b7)))))))
  clear p0 p1 b7 CP
  have p0 : w7.cell? ⟨ob, 0, none⟩ = some (.slice oa m oc) := by rw [cell_of y7]; rfl
  have p1 : w7.cell? ⟨ob, 1, none⟩ = some (.bool r) := by rw [cell_of y7]; rfl
  clear x7 y7
  go_wp2_with fail
  refine (CQ.out w7 _ H7.out.2.2.1).mono ?_
  rintro e w8 ⟨rfl, b8⟩
  have x8 : w8.heap[w.heap.size]? = some (.cells #[.slice a m c, .bool r] 29 (0, 0)) := by rw [b8.block _ (lt_of_block H7.out.1)]; exact H7.out.1
  have y8 : w8.heap[ob]? = some (.cells #[.slice oa m oc, .bool r] 29 (0, 0)) := by rw [b8.block _ (lt_of_block H7.out.2.1)]; exact H7.out.2.1
  have H8 := Lib.hid (And.intro x8 (And.intro y8 (And.intro (H7.out.2.2.1.below b8) (And.intro (H7.out.2.2.2.1.trans (b8.mono H7.out.2.2.2.1.size)) (And.intro (ownsRow_below H7.out.2.2.2.2.1 b8) (And.intro (H7.out.2.2.2.2.2.1.trans (b8.mono H7.out.2.2.2.2.2.1.size)) (H7.out.2.2.2.2.2.2.below b8)))))))
  clear p0 p1 b8 CQ x8 y8
  go_wp2_with fail
  refine (CTX.out w8 _ _ (TextsIn.of_row (base := w4.heap.size) (by rw [HQ.out]; exact H8.out.2.2.2.2.1)) H8.out.2.2.2.2.2.2).mono ?_
  rintro e w9 ⟨rfl, b9⟩
  have H9 := Lib.hid (And.intro (ownsRow_below H8.out.2.2.2.2.1 b9) (H8.out.2.2.2.2.2.1.trans (b9.mono H8.out.2.2.2.2.2.1.size)))
  have HB4 := Lib.hid (And.intro H4.out.1 (And.intro H4.out.2.1 (And.intro H4.out.2.2.1 (And.intro H4.out.2.2.2 (HM.out.below H4.out.2.2.2)))))
  clear b9 CTX H4 H5 H6 H7 H8 HM
  go_wp2
  go_loopw [15] (fun i wr => ∃ k : Nat, k ≤ q ∧ i = .int .i64 k ∧ Hid ((∃ xs, wr.ownsRow w4.heap.size 9 1 (.slice fa q fc) q xs) ∧ Below w4.heap.size w4 wr)) (fun i _ => q - (intOf i).toNat)
  case atStart => exact ⟨0, Nat.zero_le _, rfl, Lib.hid ⟨⟨_, H9.out.1⟩, H9.out.2⟩⟩
  case round =>
    obtain ⟨k, hk, rfl, HI⟩ := hrel
    by_cases hlt : k < q
    · obtain ⟨xs, hxs⟩ := HI.out.1
      obtain ⟨g, cap, hv, hg1, hg2⟩ := hxs.form (by omega)
      cases hv
      have hcell := hxs.cellAt k (by omega)
      have hlen := hxs.1
      have hkx : k < xs.length := by omega
      rw [List.getElem?_eq_getElem hkx] at hcell
      have hfz := hxs.frozenAt k
      obtain ⟨hst, _⟩ := hxs.stored k (.string ⟨#[120]⟩)
      have HST : Hid ((∃ xs, (wr.setCell ⟨g, k, none⟩ (.string ⟨#[120]⟩)).ownsRow w4.heap.size 9 1 (.slice (some ⟨g, 0, none⟩) q fc) q xs) ∧ Below w4.heap.size w4 (wr.setCell ⟨g, k, none⟩ (.string ⟨#[120]⟩))) := Lib.hid ⟨⟨_, hst⟩, HI.out.2.setCell (p := ⟨g, k, none⟩) hg1 _⟩
      clear hxs hst hlen HI hg1 hg2
      go_wp2
      go_roundw
      case rel => exact ⟨k + 1, by omega, by go_num, HST⟩
      case measure => simp [intOf]; omega
    · obtain rfl : k = q := by omega
      have HM9 := Lib.hid (HB4.out.2.2.2.2.below HI.out.2)
      go_wp2_with fail
      refine (reads_hid.out _ HM9.out).mono ?_
      rintro e w11 ⟨rfl, b11⟩
      have bw := HI.out.2.trans (b11.mono HI.out.2.size)
      have x11 : w11.heap[w.heap.size]? = some (.cells #[.slice a m c, .bool r] 29 (0, 0)) := by rw [bw.block _ (lt_of_block HB4.out.1)]; exact HB4.out.1
      have y11 : w11.heap[ob]? = some (.cells #[.slice oa m oc, .bool r] 29 (0, 0)) := by rw [bw.block _ (lt_of_block HB4.out.2.1)]; exact HB4.out.2.1
      have H11 := Lib.hid (And.intro (HB4.out.2.2.1.below bw) (HB4.out.2.2.2.1.trans (bw.mono HB4.out.2.2.2.1.size)))
      have p0 : w11.cell? ⟨w.heap.size, 0, none⟩ = some (.slice a m c) := by rw [cell_of x11]; rfl
      have p1 : w11.cell? ⟨w.heap.size, 1, none⟩ = some (.bool r) := by rw [cell_of x11]; rfl
      have p2 : w11.cell? ⟨ob, 0, none⟩ = some (.slice oa m oc) := by rw [cell_of y11]; rfl
      have p3 : w11.cell? ⟨ob, 1, none⟩ = some (.bool r) := by rw [cell_of y11]; rfl
      clear x11 y11 bw b11 HI HM9
      go_wp2_with fail
      refine (CSAME.out w11 _ _ (HD.out.below H11.out.2) H11.out.1).mono ?_
      rintro e w12 ⟨rfl, b12⟩
      have H12 := Lib.hid (H11.out.2.trans (b12.mono H11.out.2.size))
      clear b12 p0 p1 p2 p3
      go_wp2
      go_ret
      exact ⟨rfl, H12.out⟩

end Go.Proofs.YtmlanlagnhnppaaDoor
