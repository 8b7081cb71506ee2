/- The walk: bytes that come in parts are decoded as the whole; for every slice of bytes and every places. -/
import Derived.Test.YtnchaidmbdalbaaDoorFeedsB
import Derived.Deep.LoopGhost
namespace Go.Proofs.YtnchaidmbdalbaaDoor
open Go.ChangeShapes Go.WideShapes Go.ChangeAt Go.RowKit

theorem rd_other {w w' : World} {R n : Nat} {ks : List UInt8} (h : RdAt w R ks n) (hk : w'.heap[R]? = w.heap[R]?) : RdAt w' R ks n := ⟨h.1, h.2.1, by rw [hk]; exact h.2.2⟩
theorem row_other {w w' : World} {base : Nat} {e : TypeId} {size : Nat} {v : Value} {n : Nat} {xs : List Value} (h : w.ownsRow base e size v n xs) (hk : ∀ b, base ≤ b → b < w.heap.size → w'.heap[b]? = w.heap[b]?) : w'.ownsRow base e size v n xs := by
  obtain ⟨h1, h2⟩ := h
  refine ⟨h1, ?_⟩
  rcases h2 with h2 | ⟨g, cap, cur, a, b, c, d⟩
  · exact .inl h2
  · exact .inr ⟨g, cap, cur, a, b, by rw [hk g b (lt_of_block c)]; exact c, d⟩

/-- What stands between two calls of Feed. -/
def Mid (l : List UInt8) (w : World) (R : Nat) (s : Value) (at_ : Nat) (wr : World) : Prop :=
  at_ ≤ l.length ∧ s = .string ⟨(told (l.take at_)).toArray⟩ ∧ Below w.heap.size w wr ∧ ∃ ks, RdAt wr R ks (rest (l.take at_)).length ∧ ks.take (rest (l.take at_)).length = rest (l.take at_)

set_option maxRecDepth 100000 in
set_option maxHeartbeats 8000000 in
theorem feed_law (l : List UInt8) (p : List Int) (a : Option Addr) (c : Nat) (v : Value) (w : World) (hu : BytesIn w (.slice a l.length c) l) (hc : l.length ≤ c) (hv : IntsIn w v p) (hT : Lib.Utf8Tabs 0 1 w) :
    Calls Tryd.prog 6 #[.slice a l.length c, v] w fun e w' => e = .returned (.bool true) ∧ Below w.heap.size w w' := by
  obtain ⟨a2, c2, rfl⟩ := hv.form
  by_cases hl : 5000 < l.length
  · have hz : (5000 : Int) < (l.length : Int) := by omega
    clear hl hu hv hT
    go_enter Tryd.func6, Tryd.ntmps6
    go_wp2
    go_ret
    exact ⟨rfl, Below.refl _ _⟩
  by_cases hm : 50 < p.length
  · have hz : ¬ (5000 : Int) < (l.length : Int) := by omega
    have hz2 : (50 : Int) < (p.length : Int) := by omega
    clear hl hm hu hv hT
    go_enter Tryd.func6, Tryd.ntmps6
    go_wp2
    go_ret
    exact ⟨rfl, Below.refl _ _⟩
  have hz : ¬ (5000 : Int) < (l.length : Int) := by omega
  have hz2 : ¬ (50 : Int) < (p.length : Int) := by omega
  have HC := Lib.hid hc
  have hl2 : l.length ≤ 5000 := by omega
  have hp2 : p.length ≤ 50 := by omega
  clear hl hm hc
  have HU := Lib.hid hu
  have HP : Hid (∀ j, (h : j < p.length) → ∃ Bp offp, a2 = some ⟨Bp, offp, none⟩ ∧ w.cell? ⟨Bp, offp + j, none⟩ = some (.int .i64 p[j])) := fun j h => by
    rcases hv with ⟨_, h0⟩ | ⟨Bp, offp, cap, hs, hcell⟩
    · rw [h0] at h; simp at h
    · cases hs
      exact ⟨Bp, offp, rfl, hcell j h⟩
  have HT := Lib.hid hT
  clear hu hv hT
  go_enter Tryd.func6, Tryd.ntmps6
  go_wp2_with (go_at_call 18; refine (new_any _).mono ?_; rintro e w1 ⟨rfl, hw1⟩
               have B1 : Below w.heap.size w w1 := by rw [hw1]; exact (Below.refl _ _).alloc (Nat.le_refl _) _
               have r1 : RdAt w1 w.heap.size [0, 0, 0] 0 := ⟨rfl, Nat.zero_le _, by rw [hw1]; show (w.heap.push _)[w.heap.size]? = _; simp⟩
               clear hw1)
  obtain ⟨R, hR⟩ : ∃ R, R = w.heap.size := ⟨_, rfl⟩
  have hRw : w.heap.size ≤ R := by omega
  rw [← hR] at r1
  rw [← hR]
  clear hR
  go_loopw [6] (fun t wr => ∃ k : Nat, t = .int .i64 k ∧ k ≤ 2 ∧ Below w.heap.size w wr ∧ ∃ ks, RdAt wr R ks 0) (fun t _ => 2 - (intOf t).toNat)
  case atStart => exact ⟨0, rfl, by omega, B1, _, r1⟩
  case round =>
    clear B1 r1
    obtain ⟨k, rfl, hk, hbw, ks, hrd⟩ := hrel
    by_cases hlt : k < 2
    · obtain ⟨wo, rfl⟩ : ∃ wo : World, wo = wr := ⟨_, rfl⟩
      have M0 : Mid l w R (.string ⟨#[]⟩) 0 wo := ⟨Nat.zero_le _, rfl, hbw, ks, hrd, rfl⟩
      clear hbw hrd
      have hk2' : (k : Int) < 2 := by omega
      have hk2b : decide ((k : Int) < 2) = true := by simp; omega
      go_wp2
      go_hide hQ
      go_loopw [7, 8, 9] (fun s at_ i wr => ∃ (j at1 : Nat), i = .int .i64 j ∧ j ≤ p.length + 1 ∧ at_ = .int .i64 at1 ∧ Mid l w R s at1 wr ∧ (j = p.length + 1 → at1 = l.length)) (fun _ _ i _ => p.length + 1 - (intOf i).toNat)
      case atStart => exact ⟨0, 0, rfl, by omega, rfl, M0, fun h => by omega⟩
      case round =>
        clear M0
        obtain ⟨j, at1, rfl, hj, rfl, hM, hend⟩ := hrel
        obtain ⟨hat, rfl, hbw, ks, hrd, hks⟩ := hM
        by_cases hx : j = p.length + 1
        · -- all parts are fed: the End
          obtain rfl : at1 = l.length := hend hx
          rw [List.take_length] at hrd hks
          rw [List.take_length]
          have hx2 : ¬ (j : Int) ≤ (p.length : Int) := by omega
          have T1 := tabs_below HT.out hbw
          have U1 := HU.out.below hbw
          have hE := end_any R (rest l).length ks w wr w.heap.size hbw hRw hrd T1
          rw [hks] at hE
          have htd := told_end l
          have hsum : ((⟨(told l).toArray⟩ : ByteArray) ++ ⟨(dec (rest l)).toArray⟩) = ⟨(dec l).toArray⟩ := by
            apply ByteArray.ext
            apply Array.toList_inj.1
            simp [htd]
          have hadd := fun (W : World) => run_string_add_sum (P := Tryd.prog) W ⟨(told l).toArray⟩ ⟨(dec (rest l)).toArray⟩ (by
            rw [bsize, bsize]
            have h1 := congrArg List.length htd
            rw [List.length_append] at h1
            have h2 := (encs_len_le (pts l)).2
            have h3 := (pts_len l).1
            have h5 : (dec l).length = (encs (pts l)).length := rfl
            omega)
          simp only [hsum] at hadd
          have HEnd := Lib.hid hE
          have hj3 : (j : Int) = (p.length : Int) + 1 := by omega
          have HJ := Lib.hid hj3
          have hrl := rest_len l
          clear hE hend hrd hks hsum htd hj hj3 hx
          generalize told l = TL at *
          generalize dec (rest l) = DR at *
          have hrd2 : ∀ (W : World), BytesIn W (.slice a l.length c) l → Calls Tryd.prog 12 #[.string ⟨l.toArray⟩] W fun e w' => e = .returned (.string ⟨(dec l).toArray⟩) ∧ Below W.heap.size W w' := fun W _ => refDecode_any ⟨l.toArray⟩ W (by rw [bsize]; omega)
          have HRD := Lib.hid hrd2
          clear hrd2
          generalize dec l = DL at *
          go_wp2_with fail
          subst hQ
          go_wp2_with fail
          refine HEnd.out.mono ?_
          rintro e w2 ⟨rfl, B2, _, hs2, ks2, hrd2⟩
          have U2 := HU.out.below B2
          have hcv := conv_in U2
          have ha2 := hadd w2
          clear HEnd T1 U1 hbw hadd hs2
          go_wp2_with fail
          refine (HRD.out w2 U2).mono ?_
          rintro e w3 ⟨rfl, hb3⟩
          have B3 : Below w.heap.size w w3 := B2.trans (hb3.mono B2.size)
          have hrd3 : RdAt w3 R ks2 0 := rd_other hrd2 (hb3.block R (lt_of_block hrd2.2.2))
          have hee : (DL != DL) = false := by simp
          clear hb3 hrd2 B2 U2 hcv ha2
          go_wp2
          go_roundw
          case rel => exact ⟨k + 1, by go_num, by omega, B3, ks2, hrd3⟩
          case measure => simp [intOf]; omega
        by_cases hjp : j < p.length
        · obtain ⟨Bp, offp, rfl, hcell⟩ := HP.out j hjp
          have hcw := hcell
          rw [← hbw.cell (lt_of_cell hcell)] at hcw
          have hj1 : (j : Int) ≤ (p.length : Int) := by omega
          have hj2 : (j : Int) < (p.length : Int) := by omega
          obtain ⟨x, hxj⟩ : ∃ x, p[j] = x := ⟨_, rfl⟩
          rw [hxj] at hcw
          have hM2 : Mid l w R (.string ⟨(told (l.take at1)).toArray⟩) at1 wr := ⟨hat, rfl, hbw, ks, hrd, hks⟩
          clear hcell hxj
          by_cases hA : (at1 : Int) ≤ x ∧ x ≤ (l.length : Int)
          · obtain ⟨te, rfl⟩ : ∃ te : Nat, x = (te : Int) := ⟨x.toNat, by omega⟩
            have hto1 : at1 ≤ te := by omega
            have hto2 : te ≤ l.length := by omega
            have hA1 := hA.1
            have hA2 := hA.2
            clear hA hM2 hend
            have hlen1 : (l.take at1).length = at1 := by simp; omega
            obtain ⟨m, hm⟩ : ∃ m, m = (l.drop at1).take (te - at1) := ⟨_, rfl⟩
            have hml : m.length ≤ 5000 := by rw [hm]; simp; omega
            obtain ⟨x0, hcut, hin0⟩ : ∃ x0, (∀ W, (Instr.slice 22 (.slice a l.length c) (some (.int .i64 (at1 : Int))) (some (.int .i64 (te : Int))) none).run Tryd.prog W = .ok x0 W) ∧ BytesIn wr x0 m := ⟨_, fun W => run_cut at1 te hto1 (by have := HC.out; omega) W, by rw [hm]; exact cut_in (HU.out.below hbw) HC.out at1 te hto1 hto2⟩
            obtain ⟨y0, hcut0, hin1⟩ : ∃ y0, (∀ W, (Instr.slice 22 (.slice a l.length c) none (some (.int .i64 (te : Int))) none).run Tryd.prog W = .ok y0 W) ∧ BytesIn w y0 (l.take te) := ⟨_, fun W => run_cut0 te (by have := HC.out; omega) W, by have := cut_in HU.out HC.out 0 te (Nat.zero_le _) hto2; simpa using this⟩
            have hAm : l.take at1 ++ m = l.take te := by rw [hm]; exact take_part l at1 te hto1
            have htold := told_app (l.take at1) m
            have hrest := (tell_app (l.take at1) m).2
            rw [hAm] at htold hrest
            have hfeed := fun (v1 : Value) (w1 : World) (h1 : Below w.heap.size w w1) (h2 : RdAt w1 R ks (rest (l.take at1)).length) (h3 : BytesIn w1 v1 m) => feed_any R (rest (l.take at1)).length ks m v1 w w1 w.heap.size h1 hRw h2 h3 (by omega) (tabs_below HT.out h1)
            rw [hks] at hfeed
            rw [← hrest] at hfeed
            have hsum : ((⟨(told (l.take at1)).toArray⟩ : ByteArray) ++ ⟨(told (rest (l.take at1) ++ m)).toArray⟩) = ⟨(told (l.take te)).toArray⟩ := by
              apply ByteArray.ext
              apply Array.toList_inj.1
              simp [htold]
            have hadd := fun (W : World) => run_string_add_sum (P := Tryd.prog) W ⟨(told (l.take at1)).toArray⟩ ⟨(told (rest (l.take at1) ++ m)).toArray⟩ (by
              rw [bsize, bsize]
              have h1 := congrArg List.length htold
              rw [List.length_append] at h1
              have h2 := told_len (l.take te)
              have h3 : (l.take te).length ≤ l.length := List.length_take_le' _ _
              omega)
            simp only [hsum] at hadd
            have hRlt : R < wr.heap.size := lt_of_block hrd.2.2
            have hwr : w.heap.size ≤ wr.heap.size := hbw.size
            have hfin : ∀ (ks' : List UInt8) (wq : World), Below w.heap.size w wq → RdAt wq R ks' (rest (l.take te)).length → ks'.take (rest (l.take te)).length = rest (l.take te) → Mid l w R (.string ⟨(told (l.take te)).toArray⟩) te wq := fun ks' wq h1 h2 h3 => ⟨hto2, rfl, h1, ks', h2, h3⟩
            have hbeh := told_behind (l.take te)
            have htl : (l.take te).length ≤ 5000 := by simp; omega
            have HFeed := Lib.hid hfeed
            have HFin := Lib.hid hfin
            have HBeh := Lib.hid hbeh
            have HIn0 := Lib.hid hin0
            have HIn1 := Lib.hid hin1
            have HR := Lib.hid hrd
            have HB := Lib.hid hbw
            clear hfeed hfin hbeh hin0 hin1 hrd hbw hm hAm htold hrest hks hsum hlen1
            generalize told (rest (l.take at1) ++ m) = T2 at *
            generalize told (l.take at1) = T1 at *
            generalize rest (l.take at1) = R1 at *
            generalize rest (l.take te) = R2 at *
            generalize told (l.take te) = T3 at *
            generalize hLT : l.take te = LT at *
            clear hLT
            go_wp2_with (first
              | (at_builtin; refine wpList_append_in22 rfl _ _ rfl wr.heap.size _ 0 [] rfl (World.ownsRow_nil wr wr.heap.size 5 1) _ m rfl HIn0.out (by omega) (Nat.le_refl _) ?_; intro v1 w1 hown1 hgrow1
                 rw [Nat.zero_add, List.nil_append] at hown1
                 have B1 : Below w.heap.size w w1 := Below.grown HB.out hgrow1 HB.out.size (fun j hj => by cases hj)
                 have b1 : Below wr.heap.size wr w1 := Below.grown (Below.refl _ _) hgrow1 (Nat.le_refl _) (fun j hj => by cases hj)
                 have r1 : RdAt w1 R ks R1.length := rd_other HR.out (b1.block R hRlt)
                 have I1 := BytesIn.of_row hown1
                 obtain ⟨av, cv, rfl⟩ := I1.form
                 clear hgrow1 b1)
              | (go_at_call 19; refine (HFeed.out _ w1 B1 r1 I1).mono ?_; rintro e w2 ⟨rfl, B2, ho2, hs2, ks2, r2, hk2⟩
                 have own2 := row_other hown1 (fun b h1 h2 => ho2 b h2 (by omega))
                 clear ho2 hs2 B1 r1 I1 hown1))
            have hRw1 : R < wr.heap.size := hRlt
            obtain ⟨wm, rfl⟩ : ∃ wm : World, wm = wr := ⟨_, rfl⟩
            go_hide hQ2
            go_loopw [14] (fun i wr => ∃ q : Nat, i = .int .i64 q ∧ q ≤ m.length ∧ Below w.heap.size w wr ∧ RdAt wr R ks2 R2.length ∧ ∃ xs, wr.ownsRow wm.heap.size 5 1 (.slice av m.length cv) m.length xs) (fun i _ => m.length - (intOf i).toNat)
            case atStart => exact ⟨0, rfl, Nat.zero_le _, B2, r2, _, own2⟩
            case round =>
              clear B2 r2 own2
              obtain ⟨q, rfl, hq, Bq, rq, xs, oq⟩ := hrel
              by_cases hql : q < m.length
              · rcases rowForms oq with ⟨_, h0⟩ | ⟨g, cap, hg⟩
                · omega
                obtain ⟨rfl, rfl⟩ : av = some ⟨g, 0, none⟩ ∧ cv = cap := by cases hg; exact ⟨rfl, rfl⟩
                clear hg
                have hgl := (oq.lt g rfl).1
                have hxl : xs.length = m.length := by have := oq.1; omega
                have hcq0 := oq.cellAt q (by omega)
                rw [List.getElem?_eq_getElem (show q < xs.length by omega)] at hcq0
                obtain ⟨y, hcq⟩ : ∃ y, wr.cell? ⟨g, q, none⟩ = some y := ⟨_, hcq0⟩
                clear hcq0
                have hfq := oq.frozenAt q
                have hst := (oq.stored q (.int .u8 120)).1
                have rq2 : RdAt (wr.setCell ⟨g, q, none⟩ (.int .u8 120)) R ks2 R2.length := rd_other rq (heap_setCell_other _ _ _ _ (by simp; omega))
                have Bq2 : Below w.heap.size w (wr.setCell ⟨g, q, none⟩ (.int .u8 120)) := Bq.setCell (by simp; omega) _
                have hql2 : (q : Int) < (m.length : Int) := by omega
                clear oq rq Bq hxl
                go_wp2
                go_roundw
                case rel => exact ⟨q + 1, by go_num, by omega, Bq2, rq2, _, hst⟩
                case measure => simp [intOf]; omega
              · obtain rfl : q = m.length := by omega
                have hcv1 := conv_in (HIn1.out.below Bq)
                have hlw : wm.heap.size ≤ wm.heap.size := Nat.le_refl _
                have hdl := refDecode_any ⟨LT.toArray⟩ wr (by rw [bsize]; omega)
                simp only at hdl
                have ha3 := hadd wr
                clear oq hadd hcut HFeed HIn0
                by_cases hsame : T3 = dec LT
                · have g1 : (T3 == dec LT) = true := by rw [hsame]; simp
                  clear hsame HBeh
                  generalize dec LT = DT at *
                  go_wp2_with fail
                  subst hQ2
                  go_wp2_with fail
                  refine hdl.mono ?_
                  rintro e w4 ⟨rfl, hb4⟩
                  have B4 : Below w.heap.size w w4 := Bq.trans (hb4.mono Bq.size)
                  have r4 : RdAt w4 R ks2 R2.length := rd_other rq (hb4.block R (lt_of_block rq.2.2))
                  have hM4 := HFin.out ks2 w4 B4 r4 hk2
                  clear hb4 Bq rq hcv1 ha3 hdl B4 r4
                  go_wp2
                  go_roundw
                  case rel => exact ⟨j + 1, te, by go_num, by omega, rfl, hM4, fun h => by omega⟩
                  case measure => simp [intOf]; omega
                · have g1 : (T3 == dec LT) = false := by simpa using hsame
                  obtain ⟨k0, hk1, hk3, hkl, hkt⟩ := HBeh.out hsame
                  have hbh := fun W => behind_any T3 LT k0 hk1 hk3 hkl hkt (by omega) W
                  have HBH := Lib.hid hbh
                  clear hsame HBeh hkt hbh hk1 hk3 hkl
                  generalize dec LT = DT at *
                  go_wp2_with fail
                  subst hQ2
                  go_wp2_with fail
                  refine hdl.mono ?_
                  rintro e w4 ⟨rfl, hb4⟩
                  have B4 : Below w.heap.size w w4 := Bq.trans (hb4.mono Bq.size)
                  have r4 : RdAt w4 R ks2 R2.length := rd_other rq (hb4.block R (lt_of_block rq.2.2))
                  have hcv4 := conv_in (HIn1.out.below B4)
                  clear hb4 Bq rq hcv1 ha3 hdl
                  go_wp2_with fail
                  refine (HBH.out w4).mono ?_
                  rintro e w5 ⟨rfl, hb5⟩
                  have B5 : Below w.heap.size w w5 := B4.trans (hb5.mono B4.size)
                  have r5 : RdAt w5 R ks2 R2.length := rd_other r4 (hb5.block R (lt_of_block r4.2.2))
                  have hM5 := HFin.out ks2 w5 B5 r5 hk2
                  clear hb5 B4 r4 hcv4 B5 r5
                  go_wp2
                  go_roundw
                  case rel => exact ⟨j + 1, te, by go_num, by omega, rfl, hM5, fun h => by omega⟩
                  case measure => simp [intOf]; omega
          · clear hrd hks hbw hat hend
            by_cases hA1 : (at1 : Int) ≤ x
            · have hA2 : ¬ x ≤ (l.length : Int) := fun h => hA ⟨hA1, h⟩
              clear hA
              go_wp2
              go_roundw
              case rel => exact ⟨j + 1, at1, by go_num, by omega, rfl, hM2, fun h => by omega⟩
              case measure => simp [intOf]; omega
            · clear hA
              go_wp2
              go_roundw
              case rel => exact ⟨j + 1, at1, by go_num, by omega, rfl, hM2, fun h => by omega⟩
              case measure => simp [intOf]; omega
        · obtain rfl : j = p.length := by omega
          have hj1 : (p.length : Int) ≤ (p.length : Int) := by omega
          have hj2 : ¬ (p.length : Int) < (p.length : Int) := by omega
          have hto1 : at1 ≤ l.length := hat
          have hto2 : l.length ≤ l.length := Nat.le_refl _
          clear hend
          have hlen1 : (l.take at1).length = at1 := by simp; omega
          obtain ⟨m, hm⟩ : ∃ m, m = (l.drop at1).take (l.length - at1) := ⟨_, rfl⟩
          have hml : m.length ≤ 5000 := by rw [hm]; simp; omega
          obtain ⟨x0, hcut, hin0⟩ : ∃ x0, (∀ W, (Instr.slice 22 (.slice a l.length c) (some (.int .i64 (at1 : Int))) (some (.int .i64 (l.length : Int))) none).run Tryd.prog W = .ok x0 W) ∧ BytesIn wr x0 m := ⟨_, fun W => run_cut at1 l.length hto1 (by have := HC.out; omega) W, by rw [hm]; exact cut_in (HU.out.below hbw) HC.out at1 l.length hto1 hto2⟩
          obtain ⟨y0, hcut0, hin1⟩ : ∃ y0, (∀ W, (Instr.slice 22 (.slice a l.length c) none (some (.int .i64 (l.length : Int))) none).run Tryd.prog W = .ok y0 W) ∧ BytesIn w y0 (l.take l.length) := ⟨_, fun W => run_cut0 l.length (by have := HC.out; omega) W, by have := cut_in HU.out HC.out 0 l.length (Nat.zero_le _) hto2; simpa using this⟩
          have hAm : l.take at1 ++ m = l.take l.length := by rw [hm]; exact take_part l at1 l.length hto1
          have htold := told_app (l.take at1) m
          have hrest := (tell_app (l.take at1) m).2
          rw [hAm] at htold hrest
          have hfeed := fun (v1 : Value) (w1 : World) (h1 : Below w.heap.size w w1) (h2 : RdAt w1 R ks (rest (l.take at1)).length) (h3 : BytesIn w1 v1 m) => feed_any R (rest (l.take at1)).length ks m v1 w w1 w.heap.size h1 hRw h2 h3 (by omega) (tabs_below HT.out h1)
          rw [hks] at hfeed
          rw [← hrest] at hfeed
          have hsum : ((⟨(told (l.take at1)).toArray⟩ : ByteArray) ++ ⟨(told (rest (l.take at1) ++ m)).toArray⟩) = ⟨(told (l.take l.length)).toArray⟩ := by
            apply ByteArray.ext
            apply Array.toList_inj.1
            simp [show told (l.take at1) ++ told (rest (l.take at1) ++ m) = told l from by rw [← htold, List.take_length]]
          have hadd := fun (W : World) => run_string_add_sum (P := Tryd.prog) W ⟨(told (l.take at1)).toArray⟩ ⟨(told (rest (l.take at1) ++ m)).toArray⟩ (by
            rw [bsize, bsize]
            have h1 := congrArg List.length htold
            rw [List.length_append] at h1
            have h2 := told_len (l.take l.length)
            have h3 : (l.take l.length).length ≤ l.length := List.length_take_le' _ _
            omega)
          simp only [hsum] at hadd
          have hRlt : R < wr.heap.size := lt_of_block hrd.2.2
          have hwr : w.heap.size ≤ wr.heap.size := hbw.size
          have hfin : ∀ (ks' : List UInt8) (wq : World), Below w.heap.size w wq → RdAt wq R ks' (rest (l.take l.length)).length → ks'.take (rest (l.take l.length)).length = rest (l.take l.length) → Mid l w R (.string ⟨(told (l.take l.length)).toArray⟩) l.length wq := fun ks' wq h1 h2 h3 => ⟨hto2, rfl, h1, ks', h2, h3⟩
          have hbeh := told_behind (l.take l.length)
          have htl : (l.take l.length).length ≤ 5000 := by simp; omega
          have HFeed := Lib.hid hfeed
          have HFin := Lib.hid hfin
          have HBeh := Lib.hid hbeh
          have HIn0 := Lib.hid hin0
          have HIn1 := Lib.hid hin1
          have HR := Lib.hid hrd
          have HB := Lib.hid hbw
          clear hfeed hfin hbeh hin0 hin1 hrd hbw hm hAm htold hrest hks hsum hlen1
          generalize told (rest (l.take at1) ++ m) = T2 at *
          generalize told (l.take at1) = T1 at *
          generalize rest (l.take at1) = R1 at *
          generalize rest (l.take l.length) = R2 at *
          generalize told (l.take l.length) = T3 at *
          generalize hLT : l.take l.length = LT at *
          clear hLT
          go_wp2_with (first
            | (at_builtin; refine wpList_append_in22 rfl _ _ rfl wr.heap.size _ 0 [] rfl (World.ownsRow_nil wr wr.heap.size 5 1) _ m rfl HIn0.out (by omega) (Nat.le_refl _) ?_; intro v1 w1 hown1 hgrow1
               rw [Nat.zero_add, List.nil_append] at hown1
               have B1 : Below w.heap.size w w1 := Below.grown HB.out hgrow1 HB.out.size (fun j hj => by cases hj)
               have b1 : Below wr.heap.size wr w1 := Below.grown (Below.refl _ _) hgrow1 (Nat.le_refl _) (fun j hj => by cases hj)
               have r1 : RdAt w1 R ks R1.length := rd_other HR.out (b1.block R hRlt)
               have I1 := BytesIn.of_row hown1
               obtain ⟨av, cv, rfl⟩ := I1.form
               clear hgrow1 b1)
            | (go_at_call 19; refine (HFeed.out _ w1 B1 r1 I1).mono ?_; rintro e w2 ⟨rfl, B2, ho2, hs2, ks2, r2, hk2⟩
               have own2 := row_other hown1 (fun b h1 h2 => ho2 b h2 (by omega))
               clear ho2 hs2 B1 r1 I1 hown1))
          have hRw1 : R < wr.heap.size := hRlt
          obtain ⟨wm, rfl⟩ : ∃ wm : World, wm = wr := ⟨_, rfl⟩
          go_hide hQ2
          go_loopw [14] (fun i wr => ∃ q : Nat, i = .int .i64 q ∧ q ≤ m.length ∧ Below w.heap.size w wr ∧ RdAt wr R ks2 R2.length ∧ ∃ xs, wr.ownsRow wm.heap.size 5 1 (.slice av m.length cv) m.length xs) (fun i _ => m.length - (intOf i).toNat)
          case atStart => exact ⟨0, rfl, Nat.zero_le _, B2, r2, _, own2⟩
          case round =>
            clear B2 r2 own2
            obtain ⟨q, rfl, hq, Bq, rq, xs, oq⟩ := hrel
            by_cases hql : q < m.length
            · rcases rowForms oq with ⟨_, h0⟩ | ⟨g, cap, hg⟩
              · omega
              obtain ⟨rfl, rfl⟩ : av = some ⟨g, 0, none⟩ ∧ cv = cap := by cases hg; exact ⟨rfl, rfl⟩
              clear hg
              have hgl := (oq.lt g rfl).1
              have hxl : xs.length = m.length := by have := oq.1; omega
              have hcq0 := oq.cellAt q (by omega)
              rw [List.getElem?_eq_getElem (show q < xs.length by omega)] at hcq0
              obtain ⟨y, hcq⟩ : ∃ y, wr.cell? ⟨g, q, none⟩ = some y := ⟨_, hcq0⟩
              clear hcq0
              have hfq := oq.frozenAt q
              have hst := (oq.stored q (.int .u8 120)).1
              have rq2 : RdAt (wr.setCell ⟨g, q, none⟩ (.int .u8 120)) R ks2 R2.length := rd_other rq (heap_setCell_other _ _ _ _ (by simp; omega))
              have Bq2 : Below w.heap.size w (wr.setCell ⟨g, q, none⟩ (.int .u8 120)) := Bq.setCell (by simp; omega) _
              have hql2 : (q : Int) < (m.length : Int) := by omega
              clear oq rq Bq hxl
              go_wp2
              go_roundw
              case rel => exact ⟨q + 1, by go_num, by omega, Bq2, rq2, _, hst⟩
              case measure => simp [intOf]; omega
            · obtain rfl : q = m.length := by omega
              have hcv1 := conv_in (HIn1.out.below Bq)
              have hlw : wm.heap.size ≤ wm.heap.size := Nat.le_refl _
              have hdl := refDecode_any ⟨LT.toArray⟩ wr (by rw [bsize]; omega)
              simp only at hdl
              have ha3 := hadd wr
              clear oq hadd hcut HFeed HIn0
              by_cases hsame : T3 = dec LT
              · have g1 : (T3 == dec LT) = true := by rw [hsame]; simp
                clear hsame HBeh
                generalize dec LT = DT at *
                go_wp2_with fail
                subst hQ2
                go_wp2_with fail
                refine hdl.mono ?_
                rintro e w4 ⟨rfl, hb4⟩
                have B4 : Below w.heap.size w w4 := Bq.trans (hb4.mono Bq.size)
                have r4 : RdAt w4 R ks2 R2.length := rd_other rq (hb4.block R (lt_of_block rq.2.2))
                have hM4 := HFin.out ks2 w4 B4 r4 hk2
                clear hb4 Bq rq hcv1 ha3 hdl B4 r4
                go_wp2
                go_roundw
                case rel => exact ⟨p.length + 1, l.length, by go_num, by omega, rfl, hM4, fun _ => rfl⟩
                case measure => simp [intOf]
              · have g1 : (T3 == dec LT) = false := by simpa using hsame
                obtain ⟨k0, hk1, hk3, hkl, hkt⟩ := HBeh.out hsame
                have hbh := fun W => behind_any T3 LT k0 hk1 hk3 hkl hkt (by omega) W
                have HBH := Lib.hid hbh
                clear hsame HBeh hkt hbh hk1 hk3 hkl
                generalize dec LT = DT at *
                go_wp2_with fail
                subst hQ2
                go_wp2_with fail
                refine hdl.mono ?_
                rintro e w4 ⟨rfl, hb4⟩
                have B4 : Below w.heap.size w w4 := Bq.trans (hb4.mono Bq.size)
                have r4 : RdAt w4 R ks2 R2.length := rd_other rq (hb4.block R (lt_of_block rq.2.2))
                have hcv4 := conv_in (HIn1.out.below B4)
                clear hb4 Bq rq hcv1 ha3 hdl
                go_wp2_with fail
                refine (HBH.out w4).mono ?_
                rintro e w5 ⟨rfl, hb5⟩
                have B5 : Below w.heap.size w w5 := B4.trans (hb5.mono B4.size)
                have r5 : RdAt w5 R ks2 R2.length := rd_other r4 (hb5.block R (lt_of_block r4.2.2))
                have hM5 := HFin.out ks2 w5 B5 r5 hk2
                clear hb5 B4 r4 hcv4 B5 r5
                go_wp2
                go_roundw
                case rel => exact ⟨p.length + 1, l.length, by go_num, by omega, rfl, hM5, fun _ => rfl⟩
                case measure => simp [intOf]
    · obtain rfl : k = 2 := by omega
      have T1 := tabs_below HT.out hbw
      go_wp2_with (go_at_call 11; refine (decodes_any _ T1).mono ?_; rintro e w2 ⟨rfl, hb2⟩)
      go_ret
      exact ⟨rfl, hbw.trans (hb2.mono hbw.size)⟩

end Go.Proofs.YtnchaidmbdalbaaDoor
