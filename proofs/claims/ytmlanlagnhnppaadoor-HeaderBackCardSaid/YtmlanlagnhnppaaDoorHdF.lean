/- The iterator over the directives of a policy's text. -/
import Derived.Test.YtmlanlagnhnppaaDoorHdE
import Derived.Stop.RegionWithIn
namespace Go.Proofs.YtmlanlagnhnppaaDoor
open Go.RowKit Go.Shelf
attribute [local go_sem] Oper.semAt_some

/-- What a part tells: a name and words, or nothing. -/
def telM (s : List UInt8) : Option (List UInt8 × List (List UInt8)) := match words s with | [] => none | n :: ws => some (low n, keptW ws 200)
def telsM (s : List UInt8) : List (List UInt8 × List (List UInt8)) := (parts s 59).filterMap telM
def takeM (ds : List D) (x : List UInt8 × List (List UInt8)) : List D := if nameH x.1 = true ∧ ¬ x.1 ∈ ds.map D.n then ds ++ [⟨x.1, x.2⟩] else ds
theorem thereM_mem (ds : List D) (n : List UInt8) : thereM ds n = decide (n ∈ ds.map D.n) := by
  unfold thereM
  rw [Bool.eq_iff_iff, List.any_eq_true, decide_eq_true_iff, List.mem_map]
  constructor
  · rintro ⟨d, h1, h2⟩
    exact ⟨d, h1, by simpa using h2⟩
  · rintro ⟨d, h1, h2⟩
    exact ⟨d, h1, by simpa using h2⟩
theorem addD_tel (ds : List D) (s : List UInt8) : addD ds s = match telM s with | none => ds | some x => takeM ds x := by
  unfold addD dirM telM
  cases h : words s with
  | nil => rfl
  | cons n ws =>
    simp only
    unfold takeM keptW
    by_cases hn : nameH (low n) = true
    · rw [if_pos hn]
      simp only [thereM_mem]
      by_cases hm : low n ∈ ds.map D.n
      · rw [decide_eq_true hm, if_pos rfl, if_neg (by rintro ⟨_, h2⟩; exact h2 hm)]
      · rw [decide_eq_false hm, if_neg (by simp), if_pos ⟨hn, hm⟩]
    · rw [if_neg hn, if_neg (by rintro ⟨h1, _⟩; exact hn h1)]
theorem polM_tels (s : List UInt8) : polM s = (telsM s).foldl takeM [] := by
  unfold polM telsM
  have h : ∀ (L : List (List UInt8)) (ds : List D), L.foldl addD ds = (L.filterMap telM).foldl takeM ds := by
    intro L
    induction L with
    | nil => intro ds; rfl
    | cons x L ih =>
      intro ds
      rw [List.foldl_cons, addD_tel, List.filterMap_cons]
      cases telM x with
      | none => exact ih _
      | some y => exact ih _
  exact h _ _

/-- What comes: a name, and words in a row of their own. -/
structure El where
  nm : ByteArray
  ua : Option Addr
  uc : Nat
  ws : List (List UInt8)
def elV (x : El) : Array Value := #[.agg #[.string x.nm, .slice x.ua x.ws.length x.uc]]
def elE (base : Nat) (x : El) (W : World) : Prop := W.ownsRow base 9 1 (.slice x.ua x.ws.length x.uc) x.ws.length (txtCells x.ws) ∧ x.nm.size ≤ 1099511627776
def elM (x : El) : List UInt8 × List (List UInt8) := (x.nm.data.toList, x.ws)

/-- The words behind the first. -/
theorem slice_tail {w : World} {g m cap : Nat} (h : m + 1 ≤ cap) {n : List UInt8} {ws : List (List UInt8)} (hm : m = ws.length) (hc : ∀ j, (hj : j < (n :: ws).length) → w.cell? ⟨g, j, none⟩ = some (strV (n :: ws)[j])) :
    ∃ au, (∀ W, (Instr.slice 32 (.slice (some ⟨g, 0, none⟩) (m + 1) cap) (some (.int .i64 1)) none none).run Tryd.prog W = .ok (.slice au m (cap - 1)) W) ∧ TextsIn w (.slice au m (cap - 1)) ws := by
  subst hm
  by_cases e : cap = 1
  · subst e
    have h0 : ws = [] := List.length_eq_zero_iff.1 (by omega)
    subst h0
    refine ⟨some ⟨g, 0, none⟩, fun W => ?_, .inl ⟨⟨_, _, rfl⟩, rfl⟩⟩
    have key : ∀ q : Nat, q = 1 → (Instr.slice 32 (.slice (some ⟨g, 0, none⟩) 1 1) (some (.int .i64 (q : Int))) none none).run Tryd.prog W = .ok (.slice (some ⟨g, 0, none⟩) 0 0) W := fun q hq => by
      have hb : ∀ W, (Instr.sliceBound (.int .i64 (q : Int)) 1 .sliceB).run Tryd.prog W = .ok q W := fun W => by
        have := Go.run_sliceBound (P := Tryd.prog) (w := W) .i64 (q : Int) 1 .sliceB (by omega) (by omega)
        simpa using this
      simp [Instr.slice, run_underlying Tryd.underlying32, Instr.sliceBounds, hb]
      subst hq
      exact ⟨fun h => absurd rfl h, rfl⟩
    exact key 1 rfl
  · refine ⟨some ⟨g, 1, none⟩, fun W => ?_, .inr ⟨g, 1, cap - 1, rfl, fun j hj => ?_⟩⟩
    · have key : ∀ q : Nat, q = 1 → (Instr.slice 32 (.slice (some ⟨g, 0, none⟩) (ws.length + 1) cap) (some (.int .i64 (q : Int))) none none).run Tryd.prog W = .ok (.slice (some ⟨g, 1, none⟩) ws.length (cap - 1)) W := fun q hq => by
        have hb : ∀ W, (Instr.sliceBound (.int .i64 (q : Int)) (ws.length + 1) .sliceB).run Tryd.prog W = .ok q W := fun W => by
          have := Go.run_sliceBound (P := Tryd.prog) (w := W) .i64 (q : Int) (ws.length + 1) .sliceB (by omega) (by omega)
          simpa using this
        have h3 : ¬ cap = q := by omega
        have h4 : ¬ q = 0 := by omega
        have h5 : ws.length + 1 ≤ cap := h
        simp [Instr.slice, run_underlying Tryd.underlying32, Instr.sliceBounds, hb, Addr.add, h3, h4]
        subst hq
        exact ⟨by omega, rfl⟩
      exact key 1 rfl
    · have := hc (j + 1) (by simp; omega)
      rw [Nat.add_comm 1 j]
      simpa using this

set_option maxRecDepth 100000 in
set_option maxHeartbeats 1000000 in
theorem directives_any (s : ByteArray) (w : World) : Calls Tryd.prog 24 #[.string s] w fun e w' => e = .returned (.func (.func 39) #[] #[.pointer (some ⟨w.heap.size, 0, none⟩)]) ∧ w' = w.alloc (.cells #[.string s] 9) := by
  have hmf : ∀ (fn : Fn) (first cap : Array Value) (w : World), (Instr.makeFunc fn first cap).run Tryd.prog w = .ok (.func fn first cap) w := fun _ _ _ _ => rfl
  go_enter Tryd.func24, Tryd.ntmps24
  go_wp2
  go_ret
  exact ⟨rfl, rfl⟩

theorem own_below {A B : World} {base : Nat} {v : Value} {n : Nat} {xs : List Value} (h : A.ownsRow base 9 1 v n xs) (hb : Below A.heap.size A B) : B.ownsRow base 9 1 v n xs := ownsRow_below h hb

set_option maxRecDepth 100000 in
set_option maxHeartbeats 8000000 in
theorem iter_tells (s : ByteArray) (hs : s.size ≤ 1000000000) (Bx : Nat) (w : World) (hx : w.heap[Bx]? = some (.cells #[.string s] 9 (0, 0))) (hm : MaxIn w) :
    Tells Tryd.prog 39 #[.pointer (some ⟨Bx, 0, none⟩)] elV elE (fun xs => xs.map elM = telsM s.data.toList) 1000000001 w := by
  intro l J W hW hJ hY h0
  have x1 : W.heap[Bx]? = some (.cells #[.string s] 9 (0, 0)) := by rw [hW.block _ (lt_of_block hx)]; exact hx
  have q0 : W.cell? ⟨Bx, 0, none⟩ = some (.string s) := by rw [cell_of x1]; rfl
  have CP := parts_own s 59 W hs (hm.below hW)
  rw [show (((59 : UInt8).toNat : Nat) : Int) = 59 from rfl] at CP
  have hcnt : (parts s.data.toList 59).length ≤ 1000000001 := by
    have h1 := cut_total (· == (59 : UInt8)) s.data.toList
    have h2 := cut_length (· == (59 : UInt8)) s.data.toList
    have h3 := lsize s
    have h4 : (parts s.data.toList 59).length = (cut (· == (59 : UInt8)) s.data.toList).length := by unfold parts; rw [List.length_map]
    omega
  have hlen : ∀ x ∈ parts s.data.toList 59, x.length ≤ 1000000000 := fun x hx => by
    unfold parts at hx
    obtain ⟨y, hy, rfl⟩ := List.mem_map.1 hx
    have h1 := cut_len _ _ y hy
    have h2 := trim_length y
    rw [lsize] at h1
    omega
  have hT : telsM s.data.toList = (parts s.data.toList 59).filterMap telM := rfl
  rw [hT]
  generalize parts s.data.toList 59 = L at CP hcnt hlen ⊢
  have HCP := Lib.hid CP
  have HLEN := Lib.hid hlen
  have HJ := Lib.hid hJ
  have HY := Lib.hid hY
  clear CP hlen hT hx hW hm x1 hJ hY
  refine callsIn_of_wp Tryd.func39 rfl trivial ?_ rfl
  simp only [Tryd.ntmps39, List.size_toArray, List.length_cons, List.length_nil, Nat.reduceAdd, Nat.reduceSub, Array.replicate_succ, Array.replicate_zero, List.push_toArray, List.append_toArray, List.nil_append, List.cons_append]
  gi_wp2_with (refine ⟨trivial, rfl, ?_⟩; gi_at_call 22; (with_reducible refine (callsIn_wide.2 HCP.out).mono ?_); rintro e w2 ⟨v, rfl, own2, b2⟩
               obtain ⟨va, vc, rfl⟩ := (TextsIn.of_row own2).form
               have H2 : Aside (w2.ownsRow (W.heap.size + 1) 9 1 (.slice va L.length vc) L.length (txtCells L) ∧ J [] w2 ∧ W.heap.size ≤ w2.heap.size) := ⟨own2, HJ.out _ _ _ h0 b2, b2.size⟩
               clear own2 b2)
  clear h0 q0 HCP
  gi_loopw [9] (fun i wr => ∃ (k : Nat) (pre : List El), k ≤ L.length ∧ i = .int .i64 k ∧ Hid (J pre wr) ∧ Hid (pre.map elM = (L.take k).filterMap telM) ∧ pre.length ≤ k ∧ Hid (wr.ownsRow (W.heap.size + 1) 9 1 (.slice va L.length vc) L.length (txtCells L)) ∧ W.heap.size ≤ wr.heap.size) (fun i _ => L.length - (intOf i).toNat)
  case atStart => exact ⟨0, [], Nat.zero_le _, rfl, Lib.hid H2.out.2.1, Lib.hid rfl, Nat.le_refl _, Lib.hid H2.out.1, H2.out.2.2⟩
  case round =>
    obtain ⟨k, pre, hk, rfl, HJs, HP, hpl, HO, hsz⟩ := hrel
    clear H2
    by_cases hlt : k < L.length
    · obtain ⟨B, off, rfl, kc⟩ := (TextsIn.of_row HO.out).at hlt
      have hxl := HLEN.out _ (List.getElem_mem hlt)
      have HTK : Hid ((L.take (k + 1)).filterMap telM = (L.take k).filterMap telM ++ (telM L[k]).toList) := Lib.hid (by
        rw [List.take_succ_eq_append_getElem hlt, List.filterMap_append]
        cases h : telM L[k] with
        | none => simp [h]
        | some y => simp [h])
      generalize L[k] = x at *
      unfold strV at kc
      obtain ⟨X, hX⟩ : ∃ X : ByteArray, X = ⟨x.toArray⟩ := ⟨_, rfl⟩
      rw [← hX] at kc
      have hXx : X.data.toList = x := by rw [hX]
      have CW := words_own X wr (by rw [← lsize, hXx]; omega)
      rw [hXx] at CW
      cases hw : words x with
      | nil =>
        have HT0 : Hid (telM x = none) := Lib.hid (by unfold telM; rw [hw])
        rw [hw] at CW
        have HCW := Lib.hid CW
        clear CW hw hX hXx hxl
        gi_wp2_with (refine ⟨trivial, rfl, ?_⟩; gi_at_call 40; (with_reducible refine (callsIn_wide.2 HCW.out).mono ?_); rintro e w3 ⟨v3, rfl, own3, b3⟩
                     obtain ⟨va3, vc3, rfl⟩ := (TextsIn.of_row own3).form
                     have H3 : Aside (Below wr.heap.size wr w3) := b3
                     clear own3 b3)
        go_roundw
        case rel =>
          refine ⟨k + 1, pre, by omega, by go_num, Lib.hid (HJ.out _ _ _ HJs.out H3.out), Lib.hid ?_, by omega, Lib.hid (ownsRow_below HO.out H3.out), by have := H3.out.size; omega⟩
          rw [HTK.out, HT0.out, HP.out]; simp
        case measure => simp [intOf]; omega
      | cons n ws =>
        obtain ⟨hcnt2, hnl, hwl⟩ : ws.length ≤ 1000000000 ∧ n.length ≤ 1000000000 ∧ ∀ y ∈ ws, y.length ≤ 1000000000 := by
          have hwt := words_total x
          rw [hw] at hwt
          have h2 := hwt.2
          rw [List.length_cons] at h2
          have h3 : ∀ y ∈ n :: ws, y.length ≤ 1000000000 := fun y hy => by
            have := mem_len (n :: ws) y hy
            omega
          exact ⟨by omega, h3 n (by simp), fun y hy => h3 y (by simp [hy])⟩
        rw [hw] at CW
        obtain ⟨Y, hY⟩ : ∃ Y : ByteArray, Y = ⟨n.toArray⟩ := ⟨_, rfl⟩
        obtain ⟨NN, hNN⟩ : ∃ NN : ByteArray, NN.data.toList = low n := text_of (low n)
        have hYn : Y.data.toList = n := by rw [hY]
        have CL := lower_hid Y NN (by rw [hYn]; exact hNN) (by rw [← lsize, hYn]; omega)
        have HT1 : Hid (telM x = some (NN.data.toList, keptW ws 200)) := Lib.hid (by unfold telM; rw [hw, hNN])
        have hNs : NN.size ≤ 1099511627776 := by
          rw [← lsize, hNN]
          unfold low
          rw [List.length_map]; omega
        have HYY := Lib.hid hY
        have HNS := Lib.hid hNs
        have HCW := Lib.hid CW
        have hg0 : (((ws.length + 1 : Nat) : Int) == 0) = false := by rw [beq_eq_false_iff_ne]; omega
        clear CW hw hX hXx hxl hY hYn hNN hNs
        gi_wp2_with (refine ⟨trivial, rfl, ?_⟩; gi_at_call 40; (with_reducible refine (callsIn_wide.2 HCW.out).mono ?_); rintro e w3 ⟨v3, rfl, own3, b3⟩
                     rw [List.length_cons] at own3
                     obtain ⟨g, cap, rfl⟩ : ∃ g cap, v3 = .slice (some ⟨g, 0, none⟩) (ws.length + 1) cap := by
                       rcases rowForms own3 with ⟨_, h2⟩ | h
                       · omega
                       · exact h
                     have H3 : Aside (Below wr.heap.size wr w3 ∧ w3.ownsRow wr.heap.size 9 1 (.slice (some ⟨g, 0, none⟩) (ws.length + 1) cap) (ws.length + 1) (txtCells (n :: ws))) := ⟨b3, own3⟩
                     clear own3 b3)
        have hcap : ws.length + 1 ≤ cap := by
          rcases H3.out.2.2 with ⟨h, _⟩ | ⟨g', cap', cur, h, _, _, h4, _⟩
          · cases h
          · cases h; exact h4
        have hcs : ∀ j, (hj : j < (n :: ws).length) → w3.cell? ⟨g, j, none⟩ = some (strV (n :: ws)[j]) := fun j hj => by
          rw [H3.out.2.cellAt j (by rw [List.length_cons] at hj; omega)]
          unfold txtCells
          rw [List.getElem?_map, List.getElem?_eq_getElem hj]; rfl
        have k0 : w3.cell? ⟨g, 0, none⟩ = some (.string Y) := by
          have := hcs 0 (by simp)
          rw [this]
          unfold strV
          rw [HYY.out]; rfl
        obtain ⟨au, hsl, htl⟩ := slice_tail hcap rfl hcs
        have HTL := Lib.hid htl
        have CK : Hid (∀ W, TextsIn W (.slice au ws.length (cap - 1)) ws → Calls Tryd.prog 41 #[.slice au ws.length (cap - 1)] W fun e w' => ∃ u, e = .returned u ∧ w'.ownsRow W.heap.size 9 1 u (keptW ws 200).length (txtCells (keptW ws 200)) ∧ Below W.heap.size W w') := Lib.hid (fun W h => kept_any ws au ws.length (cap - 1) rfl (by omega) W h (by omega) hwl)
        clear hcs htl hcap hwl
        gi_wp2_with fail
        gi_region_with (first
          | (refine ⟨trivial, rfl, ?_⟩; gi_at_call 29; (with_reducible refine (callsIn_wide.2 (CL.out _)).mono ?_); rintro e w4 ⟨rfl, b4⟩
             have B4 : Aside (Below w3.heap.size w3 w4) := ((Below.refl w3.heap.size w3).drew).trans b4
             clear b4)
          | (refine ⟨trivial, rfl, ?_⟩; gi_at_call 41; (with_reducible refine (callsIn_wide.2 (CK.out _ (HTL.out.below B4.out))).mono ?_); rintro e w5 ⟨u, rfl, own5, b5⟩
             obtain ⟨ua, uc, rfl⟩ := (TextsIn.of_row own5).form
             have hz4 : W.heap.size ≤ w4.heap.size := by have h1 := B4.out.size; have h2 := H3.out.1.size; omega
             have B5 : Below wr.heap.size wr w5 := H3.out.1.trans ((B4.out.mono H3.out.1.size).trans (b5.mono (by have h1 := B4.out.size; have h2 := H3.out.1.size; omega)))
             have e5 : elE W.heap.size ⟨NN, ua, uc, keptW ws 200⟩ w5 := ⟨ownsRow_base own5 hz4, HNS.out⟩
             have j5 : J pre w5 := HJ.out _ _ _ HJs.out B5
             obtain ⟨fn, tmps, assign, body, hy, hR⟩ := HY.out pre ⟨NN, ua, uc, keptW ws 200⟩ w5 j5 e5 (by omega)
             dsimp only [elV] at hy
             have HR := Lib.hid hR
             have HB5 := Lib.hid B5
             clear own5 b5 hz4 B5 e5 j5 hR)
          | (refine ⟨rfl, ?_⟩; refine HR.out.mono ?_; rintro e w6 ⟨rfl, j6, k6⟩
             have H6 : Aside (J (pre ++ [⟨NN, ua, uc, keptW ws 200⟩]) w6 ∧ Strs w5 w6) := ⟨j6, k6⟩
             clear j6 k6))
        all_goals
          have OW : Hid (w6.ownsRow (W.heap.size + 1) 9 1 (.slice (some ⟨B, off, none⟩) L.length vc) L.length (txtCells L)) := Lib.hid (H6.out.2.row (ownsRow_below HO.out HB5.out))
          have SZ : W.heap.size ≤ w6.heap.size := by have h1 := H6.out.2.size; have h2 := HB5.out.size; omega
          clear hy HR
          gi_wp2
          go_roundw
          case rel =>
            refine ⟨k + 1, pre ++ [⟨NN, ua, uc, keptW ws 200⟩], by omega, by go_num, Lib.hid H6.out.1, Lib.hid ?_, by rw [List.length_append]; simp; omega, OW, SZ⟩
            rw [HTK.out, HT1.out, List.map_append, HP.out]; rfl
          case measure => simp [intOf]; omega
    · obtain rfl : k = L.length := by omega
      gi_wp2
      go_end0
      refine ⟨⟨_, rfl⟩, pre, ?_, HJs.out⟩
      have := HP.out
      rw [List.take_length] at this
      exact this

end Go.Proofs.YtmlanlagnhnppaaDoor
