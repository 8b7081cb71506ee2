/- The law FeedParts: bytes that come in parts have the whole's tokens and Fails, and again behind that. -/
import Derived.Test.YtfbhpmafjehojaaGreatDoorLawFA
namespace Go.Proofs.YtfbhpmafjehojaaGreatDoor.U1
open Go.ChangeShapes Go.WideShapes Go.ChangeAt Go.RowKit

theorem kp_setOver {P : Nat → TypeId → Prop} {w w' : World} {g q : Nat} {u : Value} (h : Kp P w w') (hg : w.heap.size ≤ g) : Kp P w (w'.setCell ⟨g, q, none⟩ u) :=
  ⟨h.os, h.tape, h.output, by have := h.size; simpa [World.setCell] using this, fun k o hk hn => (heap_setCell_ne w' _ u (by have := lt_of_block hk; simp only; omega)).trans (h.same k o hk hn)⟩
/-- Between two calls: what was taken; what the document tells of the whole. -/
def StP (w : World) (R B2 : Nat) (s : List UInt8) (mv gv : Value) (m : List UInt8) (wr : World) : Prop := FdAt wr R m ∧ RdIn wr B2 s mv gv ∧ Below w.heap.size w wr ∧ w.heap.size ≤ R ∧ R < B2
theorem StP.step {w wm wr : World} {R B2 : Nat} {s m m' : List UInt8} {mv gv : Value} (h : StP w R B2 s mv gv m wm) (k : Kp (isR R) wm wr) (f : FdAt wr R m') : StP w R B2 s mv gv m' wr :=
  ⟨f, h.2.1.kpR k h.2.2.2.2, kpR_below k h.2.2.2.1 h.1.lt h.2.2.1, h.2.2.2.1, h.2.2.2.2⟩
theorem StP.below {w wm wr : World} {R B2 : Nat} {s m : List UInt8} {mv gv : Value} (h : StP w R B2 s mv gv m wm) (b : Below wm.heap.size wm wr) : StP w R B2 s mv gv m wr := h.step (Kp.of_below b) (h.1.below b)

set_option maxRecDepth 100000 in
set_option maxHeartbeats 8000000 in
theorem parts_main (l : List UInt8) (p : List Int) (a : Option Addr) (c : Nat) (v : Value) (w : World) (hu : BytesIn w (.slice a l.length c) l) (hc : l.length ≤ c) (hv : IntsIn w v p) (hw : Lw w) (hl2 : l.length ≤ 2000) (hp2 : p.length ≤ 50) :
    Calls Tryz.prog 4 #[.slice a l.length c, v] w fun e w' => e = .returned (.bool true) ∧ Below w.heap.size w w' := by
  obtain ⟨a2, c2, rfl⟩ := hv.form
  have hz : ¬ (2000 : Int) < (l.length : Int) := by omega
  have hz2 : ¬ (50 : Int) < (p.length : Int) := by omega
  obtain ⟨a1, a3, a4⟩ := attrs_fewU (dec l) (by have := dec_len l; omega)
  have CS := sameG_hid _ a1 a3
  have CG := failsG_hid _ a4
  have CL := feeds_hid w hw
  have CN := newF_hid
  have CF := feedF_hid
  have CC := count_hid
  have CE := endF_hid w hw
  have CQ := wholeQ_hid l (by omega)
  have HW : Hid (∀ w', Below w.heap.size w w' → Lw w') := Lib.hid fun w' b => hw.below b
  have HC := Lib.hid hc
  have HU := Lib.hid hu
  have HL2 := Lib.hid hl2
  have HP : Hid (∀ j, (h : j < p.length) → ∃ Bp offp, a2 = some ⟨Bp, offp, none⟩ ∧ w.cell? ⟨Bp, offp + j, none⟩ = some (.int .i64 p[j])) := Lib.hid fun j h => by
    rcases hv with ⟨_, h0⟩ | ⟨Bp, offp, cap, hs, hcell⟩
    · rw [h0] at h; simp at h
    · cases hs
      exact ⟨Bp, offp, rfl, hcell j h⟩
  clear hu hv hw hc a1 a3 a4
  go_enter Tryz.func4, Tryz.ntmps4
  go_wp2_with fail
  (with_reducible refine (CN.out _).mono ?_)
  rintro e w1 ⟨rfl, p1, p2⟩
  obtain ⟨R, hR⟩ : ∃ R, R = w.heap.size := ⟨_, rfl⟩
  rw [← hR] at p1
  rw [← hR]
  have H1 := Lib.hid (And.intro p1 (And.intro p2 (show w.heap.size ≤ R by omega)))
  have hcv := conv_in (HU.out.below p2)
  clear p1 p2 hR CN
  go_wp2_with fail
  (refine (CQ.out _).mono ?_)
  rintro e w2 ⟨tv, fv, rfl, r2, b2⟩
  obtain ⟨B2, hB2⟩ : ∃ B2, B2 = w1.heap.size := ⟨_, rfl⟩
  have H2 : Hid (StP w R B2 (dec l) tv fv [] w2) := Lib.hid ⟨H1.out.1.below b2, by rw [hB2]; exact r2, H1.out.2.1.trans (b2.mono H1.out.2.1.size), H1.out.2.2, by rw [hB2]; exact H1.out.1.lt⟩
  obtain ⟨⟨ma, mc, hmv⟩, ⟨ga, gc, hgv⟩⟩ := r2.form
  obtain ⟨mv, hmv2⟩ : ∃ mv, mv = tv := ⟨_, rfl⟩
  obtain ⟨gv, hgv2⟩ : ∃ gv, gv = fv := ⟨_, rfl⟩
  rw [← hmv2, ← hgv2] at H2
  rw [hmv] at hmv2
  rw [hgv] at hgv2
  subst hmv hgv
  clear r2 b2 H1 CQ hcv hB2
  go_wp2
  go_loopw [9] (fun t wr => ∃ k : Nat, t = .int .i64 k ∧ k ≤ 2 ∧ Hid (StP w R B2 (dec l) mv gv [] wr)) (fun t _ => 2 - (intOf t).toNat)
  case atStart => exact ⟨0, rfl, by omega, H2⟩
  case round =>
    clear H2
    obtain ⟨k, rfl, hk, HK⟩ := hrel
    by_cases hlt : k < 2
    · obtain ⟨wo, rfl⟩ : ∃ wo : World, wo = wr := ⟨_, rfl⟩
      have hk2' : (k : Int) < 2 := by omega
      have hk2b : decide ((k : Int) < 2) = true := by simp; omega
      go_wp2
      go_hide hQ
      go_loopw [10, 11] (fun at_ i wr => ∃ (j at1 : Nat), i = .int .i64 j ∧ j ≤ p.length + 1 ∧ at_ = .int .i64 at1 ∧ at1 ≤ l.length ∧ Hid (StP w R B2 (dec l) mv gv (l.take at1) wr) ∧ (j = p.length + 1 → at1 = l.length)) (fun _ i _ => p.length + 1 - (intOf i).toNat)
      case atStart => exact ⟨0, 0, rfl, by omega, rfl, Nat.zero_le _, HK, fun h => by omega⟩
      case round =>
        clear HK
        obtain ⟨j, at1, rfl, hj, rfl, hat, HM, hend⟩ := hrel
        by_cases hx : j = p.length + 1
        · -- all parts are fed: the End
          obtain rfl : at1 = l.length := hend hx
          have hx2 : ¬ (j : Int) ≤ (p.length : Int) := by omega
          have HM2 : Hid (StP w R B2 (dec l) mv gv l wr) := Lib.hid (by have := HM.out; rw [List.take_length] at this; exact this)
          have hj3 : (j : Int) = (p.length : Int) + 1 := by omega
          have HJ := Lib.hid hj3
          clear hend hj hj3 hx HM CF
          go_wp2_with fail
          subst hQ
          go_wp2_with fail
          (refine (CE.out _ R _ HM2.out.2.2.1 HM2.out.2.2.2.1 HM2.out.1 (by have := HL2.out; omega)).mono ?_)
          rintro e w4 ⟨tv, fv, rfl, r4, k4, f4⟩
          obtain ⟨⟨ta, tc, rfl⟩, ⟨fa, fc, rfl⟩⟩ := r4.form
          have H4 := Lib.hid (And.intro r4.tok (HM2.out.step k4 f4))
          clear r4 k4 f4 HM2 CE
          subst hmv2 hgv2
          go_wp2_with fail
          (refine (CS.out _ _ _ H4.out.1.1 H4.out.2.2.1.tok.1).mono ?_)
          rintro e w5 ⟨rfl, b5⟩
          have H5 := Lib.hid (And.intro (H4.out.1.2.below b5) (H4.out.2.below b5))
          clear b5 H4
          go_wp2_with fail
          (refine (CG.out _ _ _ H5.out.1 H5.out.2.2.1.tok.2).mono ?_)
          rintro e w6 ⟨rfl, b6⟩
          have H6 := Lib.hid (H5.out.2.below b6)
          clear b6 H5
          go_wp2_with fail
          (refine (CC.out _ R _ H6.out.1).mono ?_)
          rintro e w7 ⟨rfl, rfl⟩
          rw [show ((([] : List UInt8).length : Nat) : Int) = 0 from rfl]
          go_wp2
          go_roundw
          case rel => exact ⟨k + 1, by go_num, by omega, H6⟩
          case measure => simp [intOf]; omega
        by_cases hjp : j < p.length
        · obtain ⟨Bp, offp, rfl, hcell⟩ := HP.out j hjp
          have hcw := hcell
          rw [← HM.out.2.2.1.cell (lt_of_cell hcell)] at hcw
          have hj1 : (j : Int) ≤ (p.length : Int) := by omega
          have hj2 : (j : Int) < (p.length : Int) := by omega
          obtain ⟨x, hxj⟩ : ∃ x, p[j] = x := ⟨_, rfl⟩
          rw [hxj] at hcw
          have hM2 := HM
          clear hcell hxj
          by_cases hA : (at1 : Int) ≤ x ∧ x ≤ (l.length : Int)
          · obtain ⟨te, rfl⟩ : ∃ te : Nat, x = (te : Int) := ⟨x.toNat, by omega⟩
            have hto1 : at1 ≤ te := by omega
            have hto2 : te ≤ l.length := by omega
            have hA1 := hA.1
            have hA2 := hA.2
            clear hA hend
            clear hM2
            have hcl : (l.take at1).length = at1 := by rw [List.length_take]; omega
            have hct : (l.take te).length = te := by rw [List.length_take]; omega
            obtain ⟨m, hm⟩ : ∃ m, m = (l.drop at1).take (te - at1) := ⟨_, rfl⟩
            have hml : m.length = te - at1 := by rw [hm, List.length_take, List.length_drop]; omega
            have hmb : m.length ≤ 2000 := by omega
            obtain ⟨x0, hcut, hin0⟩ : ∃ x0, (∀ W, (Instr.slice 22 (.slice a l.length c) (some (.int .i64 (at1 : Int))) (some (.int .i64 (te : Int))) none).run Tryz.prog W = .ok x0 W) ∧ BytesIn wr x0 m := ⟨_, fun W => run_cut at1 te hto1 (by have := HC.out; omega) W, by rw [hm]; exact cut_in (HU.out.below HM.out.2.2.1) HC.out at1 te hto1 hto2⟩
            have hAm : l.take at1 ++ m = l.take te := by rw [hm]; exact take_part l at1 te hto1
            have HIn0 := Lib.hid hin0
            have HAm := Lib.hid (And.intro hAm (And.intro hcl hct))
            have HML := Lib.hid hml
            clear hin0 hm hAm hcl hct hml
            go_wp2_with (first
              | (at_builtin; refine wpList_append_in22 rfl _ _ rfl wr.heap.size _ 0 [] rfl (World.ownsRow_nil wr wr.heap.size 5 1) _ m rfl HIn0.out (by have := HML.out; have := HL2.out; omega) (Nat.le_refl _) ?_; intro v1 w1 hown1 hgrow1
                 rw [Nat.zero_add, List.nil_append] at hown1
                 have B1 : Below wr.heap.size wr w1 := Below.grown (Below.refl _ _) hgrow1 (Nat.le_refl _) (fun j hj => by cases hj)
                 have H1 := Lib.hid (And.intro hown1 (And.intro (Kp.of_below (P := isR R) B1) (HM.out.1.below B1)))
                 obtain ⟨av, cv, rfl⟩ := (BytesIn.of_row hown1).form
                 clear hgrow1 hown1 B1)
              | (go_at_call 15; (refine (CF.out _ R _ m _ H1.out.2.2 (BytesIn.of_row H1.out.1) (by rw [HAm.out.2.1, HML.out]; have := HL2.out; omega) (HW.out _ (kpR_below H1.out.2.1 HM.out.2.2.2.1 HM.out.1.lt HM.out.2.2.1)).2).mono ?_); rintro e w2 ⟨rfl, k2, f2⟩
                 rw [HAm.out.1] at f2
                 have H2 : Hid (FdAt w2 R (l.take te) ∧ Kp (isR R) wr w2 ∧ w2.ownsRow wr.heap.size 5 1 (.slice av m.length cv) m.length (Lib.byteCells m)) := Lib.hid ⟨f2, H1.out.2.1.trans k2, kpR_row H1.out.1 k2 HM.out.1.lt⟩
                 clear k2 f2 H1)
              | (go_at_call 16; (refine (CC.out _ R _ H2.out.1).mono ?_); rintro e w3 ⟨rfl, rfl⟩
                 rw [HAm.out.2.2]))
            obtain ⟨wm, rfl⟩ : ∃ wm : World, wm = wr := ⟨_, rfl⟩
            go_hide hQ2
            go_loopw [14] (fun i wr => ∃ q : Nat, i = .int .i64 q ∧ q ≤ m.length ∧ Hid (FdAt wr R (l.take te) ∧ Kp (isR R) wm wr) ∧ ∃ xs, wr.ownsRow wm.heap.size 5 1 (.slice av m.length cv) m.length xs) (fun i _ => m.length - (intOf i).toNat)
            case atStart => exact ⟨0, rfl, Nat.zero_le _, Lib.hid ⟨H2.out.1, H2.out.2.1⟩, _, H2.out.2.2⟩
            case round =>
              clear H2
              obtain ⟨q, rfl, hq, Hq, xs, oq⟩ := hrel
              by_cases hql : q < m.length
              · rcases rowForms oq with ⟨_, h0⟩ | ⟨g, cap, hg⟩
                · omega
                obtain ⟨rfl, rfl⟩ : av = some ⟨g, 0, none⟩ ∧ cv = cap := by cases hg; exact ⟨rfl, rfl⟩
                clear hg
                have hgl := (oq.lt g rfl).1
                have hxl : xs.length = m.length := by have := oq.1; omega
                have hcq0 := oq.cellAt q (by omega)
                rw [List.getElem?_eq_getElem (show q < xs.length by omega)] at hcq0
                obtain ⟨y, hcq⟩ : ∃ y, wr.cell? ⟨g, q, none⟩ = some y := ⟨_, hcq0⟩
                clear hcq0
                have hfq := oq.frozenAt q
                have hst := (oq.stored q (.int .u8 60)).1
                have hRg : R ≠ g := by have := HM.out.1.lt; omega
                have Hq2 : Hid (FdAt (wr.setCell ⟨g, q, none⟩ (.int .u8 60)) R (l.take te) ∧ Kp (isR R) wm (wr.setCell ⟨g, q, none⟩ (.int .u8 60))) := Lib.hid ⟨Hq.out.1.same (heap_setCell_ne _ _ _ hRg), kp_setOver Hq.out.2 hgl⟩
                have hql2 : (q : Int) < (m.length : Int) := by omega
                clear oq Hq hxl hRg
                go_wp2
                go_roundw
                case rel => exact ⟨q + 1, by go_num, by omega, Hq2, _, hst⟩
                case measure => simp [intOf]; omega
              · obtain rfl : q = m.length := by omega
                have hlw : wm.heap.size ≤ wm.heap.size := Nat.le_refl _
                have HM3 : Hid (StP w R B2 (dec l) mv gv (l.take te) wr) := Lib.hid (HM.out.step Hq.out.2 Hq.out.1)
                clear oq Hq hcut HIn0
                go_wp2_with fail
                subst hQ2
                go_wp2
                go_roundw
                case rel => exact ⟨j + 1, te, by go_num, by omega, rfl, hto2, HM3, fun h => by omega⟩
                case measure => simp [intOf]; omega
          · clear hend
            by_cases hA1 : (at1 : Int) ≤ x
            · have hA2 : ¬ x ≤ (l.length : Int) := fun h => hA ⟨hA1, h⟩
              clear hA
              go_wp2
              go_roundw
              case rel => exact ⟨j + 1, at1, by go_num, by omega, rfl, hat, hM2, fun h => by omega⟩
              case measure => simp [intOf]; omega
            · clear hA
              go_wp2
              go_roundw
              case rel => exact ⟨j + 1, at1, by go_num, by omega, rfl, hat, hM2, fun h => by omega⟩
              case measure => simp [intOf]; omega
        · obtain rfl : j = p.length := by omega
          have hj1 : (p.length : Int) ≤ (p.length : Int) := by omega
          have hj2 : ¬ (p.length : Int) < (p.length : Int) := by omega
          have hto1 : at1 ≤ l.length := hat
          have hto2 : l.length ≤ l.length := Nat.le_refl _
          have hM2 := HM
          clear hend
          clear hM2
          have hcl : (l.take at1).length = at1 := by rw [List.length_take]; omega
          have hct : (l.take l.length).length = l.length := by rw [List.length_take]; omega
          obtain ⟨m, hm⟩ : ∃ m, m = (l.drop at1).take (l.length - at1) := ⟨_, rfl⟩
          have hml : m.length = l.length - at1 := by rw [hm, List.length_take, List.length_drop]; omega
          have hmb : m.length ≤ 2000 := by omega
          obtain ⟨x0, hcut, hin0⟩ : ∃ x0, (∀ W, (Instr.slice 22 (.slice a l.length c) (some (.int .i64 (at1 : Int))) (some (.int .i64 (l.length : Int))) none).run Tryz.prog W = .ok x0 W) ∧ BytesIn wr x0 m := ⟨_, fun W => run_cut at1 l.length hto1 (by have := HC.out; omega) W, by rw [hm]; exact cut_in (HU.out.below HM.out.2.2.1) HC.out at1 l.length hto1 hto2⟩
          have hAm : l.take at1 ++ m = l.take l.length := by rw [hm]; exact take_part l at1 l.length hto1
          have HIn0 := Lib.hid hin0
          have HAm := Lib.hid (And.intro hAm (And.intro hcl hct))
          have HML := Lib.hid hml
          clear hin0 hm hAm hcl hct hml
          go_wp2_with (first
            | (at_builtin; refine wpList_append_in22 rfl _ _ rfl wr.heap.size _ 0 [] rfl (World.ownsRow_nil wr wr.heap.size 5 1) _ m rfl HIn0.out (by have := HML.out; have := HL2.out; omega) (Nat.le_refl _) ?_; intro v1 w1 hown1 hgrow1
               rw [Nat.zero_add, List.nil_append] at hown1
               have B1 : Below wr.heap.size wr w1 := Below.grown (Below.refl _ _) hgrow1 (Nat.le_refl _) (fun j hj => by cases hj)
               have H1 := Lib.hid (And.intro hown1 (And.intro (Kp.of_below (P := isR R) B1) (HM.out.1.below B1)))
               obtain ⟨av, cv, rfl⟩ := (BytesIn.of_row hown1).form
               clear hgrow1 hown1 B1)
            | (go_at_call 15; (refine (CF.out _ R _ m _ H1.out.2.2 (BytesIn.of_row H1.out.1) (by rw [HAm.out.2.1, HML.out]; have := HL2.out; omega) (HW.out _ (kpR_below H1.out.2.1 HM.out.2.2.2.1 HM.out.1.lt HM.out.2.2.1)).2).mono ?_); rintro e w2 ⟨rfl, k2, f2⟩
               rw [HAm.out.1] at f2
               have H2 : Hid (FdAt w2 R (l.take l.length) ∧ Kp (isR R) wr w2 ∧ w2.ownsRow wr.heap.size 5 1 (.slice av m.length cv) m.length (Lib.byteCells m)) := Lib.hid ⟨f2, H1.out.2.1.trans k2, kpR_row H1.out.1 k2 HM.out.1.lt⟩
               clear k2 f2 H1)
            | (go_at_call 16; (refine (CC.out _ R _ H2.out.1).mono ?_); rintro e w3 ⟨rfl, rfl⟩
               rw [HAm.out.2.2]))
          obtain ⟨wm, rfl⟩ : ∃ wm : World, wm = wr := ⟨_, rfl⟩
          go_hide hQ2
          go_loopw [14] (fun i wr => ∃ q : Nat, i = .int .i64 q ∧ q ≤ m.length ∧ Hid (FdAt wr R (l.take l.length) ∧ Kp (isR R) wm wr) ∧ ∃ xs, wr.ownsRow wm.heap.size 5 1 (.slice av m.length cv) m.length xs) (fun i _ => m.length - (intOf i).toNat)
          case atStart => exact ⟨0, rfl, Nat.zero_le _, Lib.hid ⟨H2.out.1, H2.out.2.1⟩, _, H2.out.2.2⟩
          case round =>
            clear H2
            obtain ⟨q, rfl, hq, Hq, xs, oq⟩ := hrel
            by_cases hql : q < m.length
            · rcases rowForms oq with ⟨_, h0⟩ | ⟨g, cap, hg⟩
              · omega
              obtain ⟨rfl, rfl⟩ : av = some ⟨g, 0, none⟩ ∧ cv = cap := by cases hg; exact ⟨rfl, rfl⟩
              clear hg
              have hgl := (oq.lt g rfl).1
              have hxl : xs.length = m.length := by have := oq.1; omega
              have hcq0 := oq.cellAt q (by omega)
              rw [List.getElem?_eq_getElem (show q < xs.length by omega)] at hcq0
              obtain ⟨y, hcq⟩ : ∃ y, wr.cell? ⟨g, q, none⟩ = some y := ⟨_, hcq0⟩
              clear hcq0
              have hfq := oq.frozenAt q
              have hst := (oq.stored q (.int .u8 60)).1
              have hRg : R ≠ g := by have := HM.out.1.lt; omega
              have Hq2 : Hid (FdAt (wr.setCell ⟨g, q, none⟩ (.int .u8 60)) R (l.take l.length) ∧ Kp (isR R) wm (wr.setCell ⟨g, q, none⟩ (.int .u8 60))) := Lib.hid ⟨Hq.out.1.same (heap_setCell_ne _ _ _ hRg), kp_setOver Hq.out.2 hgl⟩
              have hql2 : (q : Int) < (m.length : Int) := by omega
              clear oq Hq hxl hRg
              go_wp2
              go_roundw
              case rel => exact ⟨q + 1, by go_num, by omega, Hq2, _, hst⟩
              case measure => simp [intOf]; omega
            · obtain rfl : q = m.length := by omega
              have hlw : wm.heap.size ≤ wm.heap.size := Nat.le_refl _
              have HM3 : Hid (StP w R B2 (dec l) mv gv (l.take l.length) wr) := Lib.hid (HM.out.step Hq.out.2 Hq.out.1)
              clear oq Hq hcut HIn0
              go_wp2_with fail
              subst hQ2
              go_wp2
              go_roundw
              case rel => exact ⟨p.length + 1, l.length, by go_num, by omega, rfl, hto2, HM3, fun h => by omega⟩
              case measure => simp [intOf]
    · have hk2' : ¬ (k : Int) < 2 := by omega
      go_wp2_with fail
      (refine (CL.out _ HK.out.2.2.1).mono ?_)
      rintro e w3 ⟨rfl, b3⟩
      have H3 := Lib.hid (HK.out.2.2.1.trans (b3.mono HK.out.2.2.1.size))
      clear b3 HK
      go_wp2
      go_ret
      exact ⟨rfl, H3.out⟩

set_option maxRecDepth 100000 in
set_option maxHeartbeats 4000000 in
theorem parts_law (l : List UInt8) (p : List Int) (u v : Value) (w : World) (hu : BytesIn w u l) (hc : ∀ a c, u = .slice a l.length c → l.length ≤ c) (hv : IntsIn w v p) (hw : Lw w) :
    Calls Tryz.prog 4 #[u, v] w fun e w' => e = .returned (.bool true) ∧ Below w.heap.size w w' := by
  obtain ⟨a, c, rfl⟩ := hu.form
  by_cases hl : l.length ≤ 2000
  · by_cases hm : p.length ≤ 50
    · exact parts_main l p a c v w hu (hc a c rfl) hv hw hl hm
    · obtain ⟨a2, c2, rfl⟩ := hv.form
      have hz : ¬ (2000 : Int) < (l.length : Int) := by omega
      have hz2 : (50 : Int) < (p.length : Int) := by omega
      clear hl hm hu hv hw hc
      go_enter Tryz.func4, Tryz.ntmps4
      go_wp2
      go_ret
      exact ⟨rfl, Below.refl _ _⟩
  · obtain ⟨a2, c2, rfl⟩ := hv.form
    have hz : (2000 : Int) < (l.length : Int) := by omega
    clear hl hu hv hw hc
    go_enter Tryz.func4, Tryz.ntmps4
    go_wp2
    go_ret
    exact ⟨rfl, Below.refl _ _⟩

end Go.Proofs.YtfbhpmafjehojaaGreatDoor.U1
