/- Policies of a text: the document's walk. -/
import Derived.Test.YtmlanlagnhnppaaDoorRefHI
import Derived.Test.YtmlanlagnhnppaaDoorHdG
namespace Go.Proofs.YtmlanlagnhnppaaDoor
open Go.RowKit

theorem polsM_take (r : Bool) (s : List UInt8) : (polsTo r (parts s 44)).take 10 = polsM r s := by
  unfold polsM parseH
  rw [List.map_take, ← polsTo_all]
theorem OwnP.low {base : Nat} {A B : World} {v : Value} {ps : List (List D × Bool)} (h : OwnP A base v ps) {n : Nat} (hn : A.heap.size ≤ n) (hb : Below n A B) : OwnP B base v ps := h.below (hb.mono hn)

set_option maxRecDepth 100000 in
set_option maxHeartbeats 8000000 in
theorem refParse_any (s : ByteArray) (hs : s.size ≤ 900000) (r : Bool) (w : World) :
    Calls Tryd.prog 12 #[.string s, .bool r] w fun e w' => ∃ v, e = .returned v ∧ PolsIn w' v (polsM r s.data.toList) ∧ Below w.heap.size w w' := by
  obtain ⟨i0, hi, hz0, hz1, hz2'⟩ := info_parts TinfoPol
  obtain ⟨j0, hj, jz0, jz1, jz2⟩ := info_parts TinfoDir
  have CP := refParts_any s 44 w (by omega)
  rw [show (((44 : UInt8).toNat : Nat) : Int) = 44 from rfl] at CP
  have hcnt : (parts s.data.toList 44).length ≤ 900001 := by
    have h1 := cut_total (· == (44 : UInt8)) s.data.toList
    have h2 := cut_length (· == (44 : UInt8)) s.data.toList
    have h3 := lsize s
    have h4 : (parts s.data.toList 44).length = (cut (· == (44 : UInt8)) s.data.toList).length := by unfold parts; rw [List.length_map]
    omega
  have hlen : ∀ x ∈ parts s.data.toList 44, x.length ≤ 900000 := fun x hx => by
    unfold parts at hx
    obtain ⟨y, hy, rfl⟩ := List.mem_map.1 hx
    have h1 := cut_len _ _ y hy
    have h2 := trim_length y
    rw [lsize] at h1
    omega
  have HALL : Hid ((polsTo r (parts s.data.toList 44)).take 10 = polsM r s.data.toList) := Lib.hid (polsM_take r s.data.toList)
  generalize parts s.data.toList 44 = L at CP hlen hcnt HALL ⊢
  generalize polsM r s.data.toList = ps at HALL ⊢
  have HCP := Lib.hid CP
  have HLEN := Lib.hid hlen
  clear CP hlen
  go_enter Tryd.func12, Tryd.ntmps12
  go_wp2_with fail
  refine HCP.out.mono ?_
  rintro e w2 ⟨vp, rfl, tp, b2⟩
  obtain ⟨va, vc, rfl⟩ := tp.form
  have HTP := Lib.hid tp
  have HB2 := Lib.hid b2
  have own0 : OwnP w2 w2.heap.size (.slice none 0 0) ((polsTo r (L.take 0)).take 10) := ⟨[], World.ownsRow_nil _ _ _ 2, PRow.nil _ _ _⟩
  clear tp b2 HCP
  go_wp2
  go_loopw [5, 7] (fun v i wr => ∃ k : Nat, k ≤ L.length ∧ i = .int .i64 k ∧ Hid (OwnP wr w2.heap.size v ((polsTo r (L.take k)).take 10)) ∧ Hid (Below w2.heap.size w2 wr)) (fun _ i _ => L.length - (intOf i).toNat)
  case atStart => exact ⟨0, Nat.zero_le _, rfl, Lib.hid own0, Lib.hid (Below.refl _ _)⟩
  case round =>
    clear own0
    obtain ⟨k, hk, rfl, HO, HB⟩ := hrel
    by_cases hlt : k < L.length
    · obtain ⟨wo, rfl⟩ : ∃ wo : World, wo = wr := ⟨_, rfl⟩
      obtain ⟨B, off, rfl, kc⟩ := (HTP.out.below HB.out).at hlt
      have hxl := HLEN.out _ (List.getElem_mem hlt)
      have HPT : Hid (polsTo r (L.take (k + 1)) = if (polM L[k]).isEmpty = true then polsTo r (L.take k) else polsTo r (L.take k) ++ [(polM L[k], r)]) := Lib.hid (by rw [List.take_succ_eq_append_getElem hlt, polsTo_snoc])
      generalize L[k] = x at *
      unfold strV at kc
      obtain ⟨X, hX⟩ : ∃ X : ByteArray, X = ⟨x.toArray⟩ := ⟨_, rfl⟩
      rw [← hX] at kc
      have hXx : X.data.toList = x := by rw [hX]
      have x1 := new_block wo (.cells #[.slice none 0 0, .bool r] 29)
      have b1 : Below wo.heap.size wo (wo.alloc (.cells #[.slice none 0 0, .bool r] 29)) := (Below.refl _ _).alloc (Nat.le_refl _) _
      have kc1 : (wo.alloc (.cells #[.slice none 0 0, .bool r] 29)).cell? ⟨B, off + k, none⟩ = some (.string X) := by rw [b1.cell (lt_of_cell kc)]; exact kc
      have CX := refParts_any X 59 (wo.alloc (.cells #[.slice none 0 0, .bool r] 29)) (by rw [← lsize, hXx]; omega)
      rw [show (((59 : UInt8).toNat : Nat) : Int) = 59 from rfl, hXx] at CX
      have hpm : polM x = (parts x 59).foldl addD [] := rfl
      have hcnt2 : (parts x 59).length ≤ 900001 := by
        have h1 := cut_total (· == (59 : UInt8)) x
        have h2 := cut_length (· == (59 : UInt8)) x
        have h4 : (parts x 59).length = (cut (· == (59 : UInt8)) x).length := by unfold parts; rw [List.length_map]
        omega
      have hlen2 : ∀ y ∈ parts x 59, y.length ≤ 900000 := fun y hy => by
        unfold parts at hy
        obtain ⟨z, hz, rfl⟩ := List.mem_map.1 hy
        have h1 := cut_len _ _ z hz
        have h2 := trim_length z
        omega
      rw [hpm] at HPT
      generalize parts x 59 = M at CX HPT hcnt2 hlen2
      have HCX := Lib.hid CX
      have HLEN2 := Lib.hid hlen2
      have H1 := Lib.hid (And.intro x1 b1)
      clear hX hXx hpm CX hlen2 x1 b1 hxl
      go_wp2_with fail
      generalize wo.alloc (.cells #[.slice none 0 0, .bool r] 29) = w3 at HCX H1 kc1 ⊢
      go_wp2_with fail
      refine HCX.out.mono ?_
      rintro e w4 ⟨vm, rfl, tm, b4⟩
      obtain ⟨ma, mc, rfl⟩ := tm.form
      have x4 : w4.heap[wo.heap.size]? = some (.cells #[.slice none 0 0, .bool r] 29 (0, 0)) := by rw [b4.block _ (lt_of_block H1.out.1)]; exact H1.out.1
      have hin : In2 w4 wo.heap.size r ((M.take 0).foldl addD []) w4 := ⟨_, x4, OwnD.nil _ _, ⟨rfl, rfl, rfl, Nat.le_refl _, fun _ _ _ _ _ => rfl⟩⟩
      have H4 : Hid (TextsIn w4 (.slice ma M.length mc) M ∧ Below wo.heap.size wo w4 ∧ w4.heap[wo.heap.size]? = some (.cells #[.slice none 0 0, .bool r] 29 (0, 0))) := Lib.hid ⟨tm, H1.out.2.trans (b4.mono (Nat.le_of_lt (lt_of_block H1.out.1))), x4⟩
      have hP4 : wo.heap.size < w4.heap.size := lt_of_block x4
      clear tm b4 x4 HCX H1 kc kc1
      go_wp2
      go_loopw [10] (fun i wr => ∃ q : Nat, q ≤ M.length ∧ i = .int .i64 q ∧ Hid (In2 w4 wo.heap.size r ((M.take q).foldl addD []) wr)) (fun i _ => M.length - (intOf i).toNat)
      case atStart => exact ⟨0, Nat.zero_le _, rfl, Lib.hid hin⟩
      case round =>
        clear hin
        obtain ⟨q, hq, rfl, HI⟩ := hrel
        obtain ⟨v8, hp8, od8, t8⟩ := HI.out
        obtain ⟨a8, c8, rfl⟩ := od8.in.form
        have hsz8 := HI.out.size
        have q8 : wr.cell? ⟨wo.heap.size, 0, none⟩ = some (.slice a8 ((M.take q).foldl addD []).length c8) := by rw [cell_of hp8]; rfl
        have q9 : wr.cell? ⟨wo.heap.size, 1, none⟩ = some (.bool r) := by rw [cell_of hp8]; rfl
        by_cases hlt2 : q < M.length
        · obtain ⟨B2, off2, rfl, kq⟩ := (HI.out.texts H4.out.2.2 (by intro s h; cases h) H4.out.1).at hlt2
          have hyl := HLEN2.out _ (List.getElem_mem hlt2)
          have HTQ : Hid ((M.take (q + 1)).foldl addD [] = addD ((M.take q).foldl addD []) M[q]) := Lib.hid (by rw [List.take_succ_eq_append_getElem hlt2, List.foldl_append]; rfl)
          have hdl := addD_bound M q
          have hdr : ∀ d ∈ (M.take q).foldl addD [], d.w.length ≤ 1000000 := fun d hd => by
            have := (dirR_all (addD_right2 (M.take q) d hd)).2.1
            omega
          generalize M[q] = y at *
          unfold strV at kq
          obtain ⟨Y, hY⟩ : ∃ Y : ByteArray, Y = ⟨y.toArray⟩ := ⟨_, rfl⟩
          rw [← hY] at kq
          have hYy : Y.data.toList = y := by rw [hY]
          obtain ⟨N, ws, ok, CD, hNs, htel⟩ := refDir_tel Y (by rw [← lsize, hYy]; omega)
          rw [hYy] at CD htel
          obtain ⟨bt, hbt⟩ : ∃ b, decide (low N.data.toList ∈ ((M.take q).foldl addD []).map D.n) = b := ⟨_, rfl⟩
          have CF : Hid (∀ W dv, DirsIn W dv ((M.take q).foldl addD []) → Calls Tryd.prog 16 #[polV dv r, .string N] W fun e w' => (∃ a n c, e = .returned (.tuple #[.slice a n c, .bool bt])) ∧ Below W.heap.size W w') := Lib.hid (fun W dv h => refFind_b _ dv r N bt hbt W h (by omega) hdr (by omega))
          have HCASE : Hid ((ok && !bt) = true → telM y = some (N.data.toList, ws) ∧ nameH N.data.toList = true ∧ ¬ N.data.toList ∈ ((M.take q).foldl addD []).map D.n) := Lib.hid (fun h => by
            rw [Bool.and_eq_true] at h
            rcases htel with ⟨_, h2⟩ | ⟨h1, h2⟩
            · rw [h2] at h; cases h.1
            · have h3 : nameH N.data.toList = true := by rw [← h2]; exact h.1
              refine ⟨h1, h3, fun h4 => ?_⟩
              rw [name_low h3, decide_eq_true h4] at hbt
              rw [← hbt] at h
              cases h.2)
          have HCASE2 : Hid ((ok && !bt) = false → addD ((M.take q).foldl addD []) y = (M.take q).foldl addD []) := Lib.hid (fun h => by
            refine addD_no ?_
            rcases htel with ⟨h1, _⟩ | ⟨h1, h2⟩
            · exact .inl h1
            · refine .inr ⟨_, _, h1, ?_⟩
              cases h3 : nameH N.data.toList
              · exact .inl rfl
              · refine .inr ⟨rfl, ?_⟩
                rw [h2, h3] at h
                cases bt
                · cases h
                · rw [name_low h3] at hbt
                  exact of_decide_eq_true hbt)
          have hnl : ((M.take q).foldl addD []).length ≤ 900001 := by omega
          generalize (M.take q).foldl addD [] = dq at *
          have HCD := Lib.hid CD
          have HO8 := Lib.hid od8
          have HP8 := Lib.hid (And.intro hp8 t8)
          clear hY hYy CD htel hbt hdr hdl od8 hp8 t8 hyl
          have HH2 := Lib.hid (And.intro H4.out.2.1.size hP4)
          obtain ⟨kb, hkb⟩ : ∃ b, (ok && !bt) = b := ⟨_, rfl⟩
          rw [hkb] at HCASE HCASE2
          go_wp2_with fail
          refine (HCD.out _).mono ?_
          rintro e w5 ⟨⟨da, dc, rfl, own5⟩, b5⟩
          have bD : Below w5.heap.size w5 (w5.alloc (.cells #[.string N, .slice da ws.length dc] 42)) := (Below.refl _ _).alloc (Nat.le_refl _) _
          have xD := new_block w5 (.cells #[.string N, .slice da ws.length dc] 42)
          have B6 : Below wr.heap.size wr (w5.alloc (.cells #[.string N, .slice da ws.length dc] 42)) := b5.trans (bD.mono b5.size)
          have own6 := ownsRow_below own5 bD
          have p8 : (w5.alloc (.cells #[.string N, .slice da ws.length dc] 42)).cell? ⟨wo.heap.size, 0, none⟩ = some (.slice a8 dq.length c8) := by rw [B6.cell (lt_of_cell q8)]; exact q8
          have p9 : (w5.alloc (.cells #[.string N, .slice da ws.length dc] 42)).cell? ⟨wo.heap.size, 1, none⟩ = some (.bool r) := by rw [B6.cell (lt_of_cell q9)]; exact q9
          have p10 : (w5.alloc (.cells #[.string N, .slice da ws.length dc] 42)).cell? ⟨w5.heap.size, 0, none⟩ = some (.string N) := by rw [cell_of xD]; rfl
          have p11 : (w5.alloc (.cells #[.string N, .slice da ws.length dc] 42)).cell? ⟨w5.heap.size, 1, none⟩ = some (.slice da ws.length dc) := by rw [cell_of xD]; rfl
          have H6 := Lib.hid (And.intro B6 own6)
          clear q8 q9 b5 bD xD B6 own6 own5 HCD kq
          go_wp2_with fail
          generalize w5.alloc (.cells #[.string N, .slice da ws.length dc] 42) = w6 at H6 p8 p9 p10 p11 ⊢
          have CF6 := Lib.hid (CF.out w6 (.slice a8 dq.length c8) (HO8.out.in.below H6.out.1))
          unfold polV at CF6
          go_wp2_with fail
          refine CF6.out.mono ?_
          rintro e w7 ⟨⟨fa, fn, fc, rfl⟩, b7⟩
          have r8 : w7.cell? ⟨wo.heap.size, 0, none⟩ = some (.slice a8 dq.length c8) := by rw [b7.cell (lt_of_cell p8)]; exact p8
          have r10 : w7.cell? ⟨w5.heap.size, 0, none⟩ = some (.string N) := by rw [b7.cell (lt_of_cell p10)]; exact p10
          have r11 : w7.cell? ⟨w5.heap.size, 1, none⟩ = some (.slice da ws.length dc) := by rw [b7.cell (lt_of_cell p11)]; exact p11
          have B7 : Below wr.heap.size wr w7 := H6.out.1.trans (b7.mono H6.out.1.size)
          have HI7 := Lib.hid (HI.out.below B7)
          have H7 := Lib.hid (And.intro B7 (ownsRow_below H6.out.2 b7))
          clear p8 p9 p10 p11 b7 B7 CF6 CF H6 HI
          cases kb
          · have HE := Lib.hid (HCASE2.out rfl)
            have HIE : Hid (In2 w4 wo.heap.size r ((M.take (q + 1)).foldl addD []) w7) := Lib.hid (by rw [HTQ.out, HE.out]; exact HI7.out)
            clear HCASE HCASE2 HE
            cases ok
            · go_wp2
              go_roundw
              case rel => exact ⟨q + 1, by omega, by go_num, HIE⟩
              case measure => simp [intOf]; omega
            · obtain rfl : bt = true := by simpa using hkb
              go_wp2
              go_roundw
              case rel => exact ⟨q + 1, by omega, by go_num, HIE⟩
              case measure => simp [intOf]; omega
          · obtain ⟨rfl, rfl⟩ : ok = true ∧ bt = false := by
              cases ok
              · cases hkb
              · cases bt
                · exact ⟨rfl, rfl⟩
                · cases hkb
            obtain ⟨h1, h2, h3⟩ := HCASE.out rfl
            have HE := Lib.hid (addD_yes h1 h2 h3)
            obtain ⟨csq, hrow, hdr⟩ := HO8.out
            have HR7 := Lib.hid (ownsRow_below hrow H7.out.1)
            have HD7 := Lib.hid (hdr.below H7.out.1)
            have hp7 := (H7.out.1.block _ (lt_of_block HP8.out.1)).trans HP8.out.1
            have t7 : Turn wo.heap.size wo.heap.size none w4 w7 := by
              have t := HP8.out.2
              have b := H7.out.1
              exact ⟨b.os.trans t.os, b.tape.trans t.tape, b.output.trans t.output, Nat.le_trans t.size b.size, fun k hk a b' c => (b.block k (Nat.lt_of_lt_of_le hk t.size)).trans (t.block k hk a b' c)⟩
            have HP7 := Lib.hid (And.intro hp7 t7)
            have hz7 : w4.heap.size ≤ w7.heap.size := t7.size
            have HOB : Hid (∀ k, (Value.slice a8 dq.length c8).ownBlock = some k → k < wr.heap.size) := Lib.hid (fun k hk => (hrow.lt k hk).2)
            clear h1 h2 h3 hrow hdr hp7 t7 HCASE HCASE2 hkb
            go_wp2_with (at_builtin; refine wpList_append_own_at _ rfl _ _ 27 rfl w4.heap.size 42 j0 (.agg #[.string ⟨#[]⟩, .slice none 0 0]) 2 40 Tryd.underlying27 hj jz0 jz1 jz2 rfl (by decide) _ _ _ rfl (HR7.out.alloc _) ⟨w7.heap.size, 0, none⟩ 1 1 [.string N, .slice da ws.length dc] rfl rfl (cell_two_new' _ _ _ _) (by intro u hu; simp at hu; rcases hu with rfl | rfl <;> rfl) (by unfold maxLen; omega) (by omega) (by simp; omega) ?_; intro v9 w9 hown9 hgrow9 hnil9 hat9
                         obtain ⟨y9, in9⟩ := In2.grow HP7.out.1 HP7.out.2 HH2.out.2 HR7.out HD7.out hsz8 HOB.out H7.out.2 hown9 hgrow9 hat9
                         obtain ⟨a9, c9, rfl⟩ : ∃ a9 c9, v9 = .slice a9 (dq.length + 1) c9 := by
                           rcases rowForms hown9 with ⟨_, h⟩ | ⟨g, cap, h⟩
                           · omega
                           · exact ⟨_, _, h⟩
                         have s9 : w9.cell? ⟨wo.heap.size, 0, none⟩ = some (.slice a8 dq.length c8) := by rw [cell_of y9]; rfl
                         have f9 : w9.frozen? ⟨wo.heap.size, 0, none⟩ = false := open_of y9 0
                         have IN9 : Aside (In2 w4 wo.heap.size r ((M.take (q + 1)).foldl addD []) (w9.setCell ⟨wo.heap.size, 0, none⟩ (.slice a9 (dq.length + 1) c9))) := by rw [HTQ.out, HE.out]; exact in9
                         clear hown9 hgrow9 hnil9 hat9 y9 in9)
            go_roundw
            case rel => exact ⟨q + 1, by omega, by go_num, Lib.hid IN9.out⟩
            case measure => simp [intOf]; omega
        · obtain rfl : q = M.length := by omega
          rw [List.take_length] at HI od8 q8
          have hmb := addD_bound M M.length
          rw [List.take_length] at hmb
          generalize M.foldl addD [] = dd at *
          have hbo : Below wo.heap.size wo wr := H4.out.2.1.trans (t8.below (by have := H4.out.2.1.size; exact this) (Nat.le_refl _) (Nat.le_refl _) (fun k hk => by cases hk))
          have HB5 : Hid (Below w2.heap.size w2 wr) := Lib.hid (HB.out.trans (hbo.mono HB.out.size))
          have HO5 := Lib.hid (HO.out.below hbo)
          obtain ⟨n5, hn5⟩ : ∃ n5, ((polsTo r (L.take k)).take 10).length = n5 := ⟨_, rfl⟩
          have hn10 : n5 ≤ 10 := by rw [← hn5, List.length_take]; omega
          obtain ⟨au, cu, rfl⟩ : ∃ au cu, u5 = .slice au n5 cu := by
            obtain ⟨au, cu, h⟩ := HO.out.in.form
            exact ⟨au, cu, by rw [h, hn5]⟩
          have HOB : Hid (∀ q, (Value.slice au n5 cu).ownBlock = some q → w2.heap.size ≤ q ∧ q < wo.heap.size) := Lib.hid (by obtain ⟨_, h1, _⟩ := HO.out; exact h1.lt)
          have HZ : Hid (w2.heap.size ≤ w4.heap.size ∧ wo.heap.size ≤ w4.heap.size ∧ wo.heap.size ≤ wr.heap.size) := Lib.hid ⟨by have := HB.out.size; have := H4.out.2.1.size; omega, H4.out.2.1.size, hbo.size⟩
          have HO8 := Lib.hid od8
          obtain ⟨m, hm5⟩ : ∃ m, dd.length = m := ⟨_, rfl⟩
          have hemp : dd.isEmpty = decide (m = 0) := by
            rw [← hm5]
            cases dd with
            | nil => rfl
            | cons => rfl
          have HN5 := Lib.hid hn5
          rw [hm5] at q8 hmb HO8
          clear hbo HB HO hn5 od8 hp8 t8 HI hm5
          by_cases hm0 : m = 0
          · subst hm0
            have HPT2 : Hid (polsTo r (L.take (k + 1)) = polsTo r (L.take k)) := Lib.hid (by rw [HPT.out, hemp]; rfl)
            clear hemp
            go_wp2
            go_roundw
            case rel => exact ⟨k + 1, by omega, by go_num, by rw [HPT2.out]; exact HO5, HB5⟩
            case measure => simp [intOf]; omega
          · have hne : dd.isEmpty = false := by rw [hemp, decide_eq_false hm0]
            have HPT2 : Hid (polsTo r (L.take (k + 1)) = polsTo r (L.take k) ++ [(dd, r)]) := Lib.hid (by rw [HPT.out, hne]; rfl)
            have hz : (0 : Int) < (m : Int) := by omega
            have hz2 : 0 < m := by omega
            clear hemp hne
            by_cases h10 : n5 < 10
            · have hzz : (n5 : Int) < 10 := by omega
              have HTA : Hid ((polsTo r (L.take (k + 1))).take 10 = (polsTo r (L.take k)).take 10 ++ [(dd, r)]) := Lib.hid (by
                have h1 := HN5.out
                rw [List.length_take] at h1
                have e1 : (polsTo r (L.take k)).take 10 = polsTo r (L.take k) := List.take_of_length_le (by omega)
                rw [HPT2.out, e1]
                exact List.take_of_length_le (by rw [List.length_append]; simp; omega))
              obtain ⟨csP, hrow, hpr⟩ := HO5.out
              rw [HN5.out] at hrow
              have HR5 := Lib.hid hrow
              have HPR := Lib.hid hpr
              have hszW : w2.heap.size ≤ wr.heap.size := HB5.out.size
              clear hrow hpr
              go_wp2_with (at_builtin; refine wpList_append_own_at _ rfl _ _ 24 rfl w2.heap.size 29 i0 (.agg #[.slice none 0 0, .bool false]) 2 32 Tryd.underlying24 hi hz0 hz1 hz2' rfl (by decide) _ _ _ rfl (HR5.out.alloc _) ⟨wr.heap.size, 0, none⟩ 1 1 [.slice a8 m c8, .bool r] rfl rfl (cell_two_new' _ _ _ _) (by intro u hu; simp at hu; rcases hu with rfl | rfl <;> rfl) (by unfold maxLen; omega) (by omega) (by simp; omega) ?_; intro v6 w6 hown6 hgrow6 hnil6 hat6
                           have bA : Below wr.heap.size wr (wr.alloc (.cells #[.slice a8 m c8, .bool r] 29)) := (Below.refl _ _).alloc (Nat.le_refl _) _
                           have hobl := HOB.out
                           have odA := HO8.out.below bA
                           have dby : DirsBy (wr.alloc (.cells #[.slice a8 m c8, .bool r] 29)) w2.heap.size (Value.slice au n5 cu).ownBlock (.slice a8 m c8) dd := odA.by HZ.out.1 (fun q hq => by have h1 := (hobl q hq).2; have h2 := HZ.out.2.1; omega)
                           have op6 : OwnP w6 w2.heap.size v6 ((polsTo r (L.take k)).take 10 ++ [(dd, r)]) := OwnP.grow (dd, r) (.slice a8 m c8) (HPR.out.keeps (Keeps.of_below (lo := 0) bA)) dby (by rw [HN5.out]; exact hown6) hgrow6 hat6
                           have X6 : Aside (OwnP w6 w2.heap.size v6 ((polsTo r (L.take (k + 1))).take 10) ∧ Below w2.heap.size w2 w6) := ⟨by rw [HTA.out]; exact op6, Below.grown (HB5.out.trans (bA.mono hszW)) hgrow6 (by simp; omega) (fun q hq => (hobl q hq).1)⟩
                           clear hown6 hgrow6 hnil6 hat6 bA hobl odA dby op6)
              go_roundw
              case rel => exact ⟨k + 1, by omega, by go_num, Lib.hid X6.out.1, Lib.hid X6.out.2⟩
              case measure => simp [intOf]; omega
            · have hzz : ¬ (n5 : Int) < 10 := by omega
              have HTA : Hid ((polsTo r (L.take (k + 1))).take 10 = (polsTo r (L.take k)).take 10) := Lib.hid (by
                have h1 := HN5.out
                rw [List.length_take] at h1
                rw [HPT2.out, List.take_append_of_le_length (by omega)])
              go_wp2
              go_roundw
              case rel => exact ⟨k + 1, by omega, by go_num, by rw [HTA.out]; exact HO5, HB5⟩
              case measure => simp [intOf]; omega
    · obtain rfl : k = L.length := by omega
      have HFIN : Hid (PolsIn wr u5 ps) := Lib.hid (by
        have h1 := HO.out
        rw [List.take_length, HALL.out] at h1
        exact h1.in)
      have HBF : Hid (Below w.heap.size w wr) := Lib.hid (HB2.out.trans (HB.out.mono HB2.out.size))
      clear HO HB
      go_wp2
      go_ret
      exact ⟨_, rfl, HFIN.out, HBF.out⟩

end Go.Proofs.YtmlanlagnhnppaaDoor
