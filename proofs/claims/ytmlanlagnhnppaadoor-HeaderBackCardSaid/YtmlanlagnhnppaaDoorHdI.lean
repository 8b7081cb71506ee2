/- A policy's text: the program's. -/
import Derived.Test.YtmlanlagnhnppaaDoorPols
import Derived.Lib.Join
namespace Go.Proofs.YtmlanlagnhnppaaDoor
open Go.RowKit

theorem joinTail_one (ws : List (List UInt8)) : Lib.joinTail [32] ws = tailT ws := by
  unfold Lib.joinTail tailT
  rw [List.flatMap_def]
  rfl
theorem join_dT (d : D) : Lib.join (d.n :: d.w) [32] = dT d := by
  rw [Lib.join_cons, joinTail_one]; rfl
theorem join_pT : ∀ ds : List D, Lib.join (ds.map dT) [59, 32] = pT ds
  | [] => rfl
  | [d] => by
    show Lib.join [dT d] _ = dT d
    rw [Lib.join_one]
  | d :: e :: r => by
    have ih := join_pT (e :: r)
    rw [pT_cons, ← ih]
    show Lib.join (dT d :: dT e :: r.map dT) _ = _
    rw [Lib.join_cons]
    show _ = dT d ++ 59 :: 32 :: Lib.join (dT e :: r.map dT) _
    rw [Lib.join_cons]
    simp [Lib.joinTail]
theorem dT_le : ∀ {ds : List D} {d : D}, d ∈ ds → (dT d).length ≤ (pT ds).length
  | [], _, h => by cases h
  | [e], d, h => by rw [List.mem_singleton.1 h]; exact Nat.le_refl _
  | e :: f :: r, d, h => by
    rw [pT_cons]
    rcases List.mem_cons.1 h with rfl | h
    · simp
    · have := dT_le (ds := f :: r) h
      simp only [List.length_append, List.length_cons]
      omega
theorem join_own (L : List (List UInt8)) (g c n : Nat) (hn : n = L.length) (base : Nat) (w : World) (h : w.ownsRow base 9 1 (.slice (some ⟨g, 0, none⟩) n c) n (txtCells L)) (sep T : ByteArray) (hT : T.data.toList = Lib.join L sep.data.toList) (hlen : (Lib.join L sep.data.toList).length ≤ 1000000000) (hl : L.length ≤ 1000000000) :
    Calls Tryd.prog 33 #[.slice (some ⟨g, 0, none⟩) n c, .string sep] w fun e w' => e = .returned (.string T) ∧ Below w.heap.size w w' := by
  subst hn
  have hx : (L.map (fun l => (⟨l.toArray⟩ : ByteArray))).map (·.data.toList) = L := by
    rw [List.map_map]
    conv => rhs; rw [← List.map_id L]
    congr 1
  have hc := Tryd.strings_Join g 0 c (L.map (fun l => (⟨l.toArray⟩ : ByteArray))) sep w (fun j x hj => by
      have hj' : j < L.length := by have := (List.getElem?_eq_some_iff.1 hj).1; simpa using this
      rw [List.getElem?_map, List.getElem?_eq_getElem hj'] at hj
      simp only [Option.map_some, Option.some.injEq] at hj
      rw [Nat.zero_add, h.cellAt j (by omega)]
      unfold txtCells
      rw [List.getElem?_map, List.getElem?_eq_getElem hj']
      rw [← hj]; rfl) (by
      rcases h.2 with ⟨h1, _⟩ | ⟨g', cap, cur, h1, _, h2, _⟩
      · cases h1
      · cases h1; exact lt_of_block h2) (by rw [List.length_map]; omega) (by
      rw [List.length_map]
      rcases h.2 with ⟨h1, _⟩ | ⟨g', cap, cur, h1, _, _, h3, _⟩
      · cases h1
      · cases h1; exact h3) (by rw [hx]; omega)
  rw [hx, List.length_map, ← hT] at hc
  exact hc
theorem own_one (W : World) (x : Value) (base : Nat) (hb : base ≤ W.heap.size) : (W.alloc (.cells #[x] 9)).ownsRow base 9 1 (.slice (some ⟨W.heap.size, 0, none⟩) 1 1) 1 [x] :=
  ⟨rfl, .inr ⟨W.heap.size, 1, #[x], rfl, hb, new_block W _, Nat.le_refl _, by decide, rfl, rfl⟩⟩

set_option maxRecDepth 100000 in
set_option maxHeartbeats 2000000 in
theorem print_wrong (ds : List D) (hr : ¬ rightH ds) (dv : Value) (r : Bool) (w : World) (hd : DirsIn w dv ds) (hl : ds.length ≤ 1000000) (hws : ∀ d ∈ ds, d.n.length ≤ 1000000000 ∧ d.w.length ≤ 1000000 ∧ ∀ x ∈ d.w, x.length ≤ 1000000000) :
    Calls Tryd.prog 17 #[polV dv r] w fun e w' => e = .returned (.tuple #[.string ⟨#[]⟩, .bool false]) ∧ Below w.heap.size w w' := by
  obtain ⟨a, c, rfl⟩ := hd.form
  have bA : Below w.heap.size w (w.alloc (.cells #[.slice a ds.length c, .bool r] 29)) := (Below.refl _ _).alloc (Nat.le_refl _) _
  have xA := new_block w (.cells #[.slice a ds.length c, .bool r] 29)
  have CR := isRight_any ds _ r _ (hd.below bA) hl hws
  rw [decide_eq_false hr] at CR
  unfold polV at CR ⊢
  have q0 : (w.alloc (.cells #[.slice a ds.length c, .bool r] 29)).cell? ⟨w.heap.size, 0, none⟩ = some (.slice a ds.length c) := by rw [cell_of xA]; rfl
  have q1 : (w.alloc (.cells #[.slice a ds.length c, .bool r] 29)).cell? ⟨w.heap.size, 1, none⟩ = some (.bool r) := by rw [cell_of xA]; rfl
  have HCR := Lib.hid CR
  have HB := Lib.hid bA
  clear bA xA CR hd hws hr
  go_enter Tryd.func17, Tryd.ntmps17
  go_wp2_with fail
  generalize w.alloc (.cells #[.slice a ds.length c, .bool r] 29) = w1 at HCR HB q0 q1 ⊢
  go_wp2_with (go_at_call 32; (with_reducible refine HCR.out.mono ?_); rintro e w2 ⟨rfl, b2⟩
               have H2 : Aside (Below w.heap.size w w2) := HB.out.trans (b2.mono HB.out.size)
               clear b2)
  go_ret2
  exact ⟨rfl, H2.out⟩

set_option maxRecDepth 100000 in
set_option maxHeartbeats 8000000 in
theorem print_right (ds : List D) (hr : rightH ds) (dv : Value) (r : Bool) (w : World) (hd : DirsIn w dv ds) (hl : ds.length ≤ 1000000) (hws : ∀ d ∈ ds, d.n.length ≤ 1000000000 ∧ d.w.length ≤ 1000000 ∧ ∀ x ∈ d.w, x.length ≤ 1000000000) (hlen : (pT ds).length ≤ 1000000000) (T : ByteArray) (hT : T.data.toList = pT ds) :
    Calls Tryd.prog 17 #[polV dv r] w fun e w' => e = .returned (.tuple #[.string T, .bool true]) ∧ Below w.heap.size w w' := by
  obtain ⟨i0, hi, hz0, hz1, hz2⟩ := info_parts Tinfo9
  obtain ⟨a, c, rfl⟩ := hd.form
  have bA : Below w.heap.size w (w.alloc (.cells #[.slice a ds.length c, .bool r] 29)) := (Below.refl _ _).alloc (Nat.le_refl _) _
  have xA := new_block w (.cells #[.slice a ds.length c, .bool r] 29)
  have CR := isRight_any ds _ r _ (hd.below bA) hl hws
  rw [decide_eq_true hr] at CR
  unfold polV at CR ⊢
  have q0 : (w.alloc (.cells #[.slice a ds.length c, .bool r] 29)).cell? ⟨w.heap.size, 0, none⟩ = some (.slice a ds.length c) := by rw [cell_of xA]; rfl
  have q1 : (w.alloc (.cells #[.slice a ds.length c, .bool r] 29)).cell? ⟨w.heap.size, 1, none⟩ = some (.bool r) := by rw [cell_of xA]; rfl
  have HCR := Lib.hid CR
  have HB := Lib.hid (And.intro bA xA)
  have HDW := Lib.hid hd
  have HWS := Lib.hid hws
  have HLEN : Hid (∀ d ∈ ds, (dT d).length ≤ 1000000000) := Lib.hid (fun d hd => Nat.le_trans (dT_le hd) hlen)
  have HTT := Lib.hid (And.intro hT hlen)
  clear bA xA CR hd hws hr hT hlen
  go_enter Tryd.func17, Tryd.ntmps17
  go_wp2_with fail
  generalize w.alloc (.cells #[.slice a ds.length c, .bool r] 29) = w1 at HCR HB q0 q1 ⊢
  go_wp2_with fail
  refine HCR.out.mono ?_
  rintro e w2 ⟨rfl, b2⟩
  have x2 : w2.heap[w.heap.size]? = some (.cells #[.slice a ds.length c, .bool r] 29 (0, 0)) := by rw [b2.block _ (lt_of_block HB.out.2)]; exact HB.out.2
  have q2 : w2.cell? ⟨w.heap.size, 0, none⟩ = some (.slice a ds.length c) := by rw [cell_of x2]; rfl
  have H2 : Hid (Below w.heap.size w w2 ∧ w2.heap[w.heap.size]? = some (.cells #[.slice a ds.length c, .bool r] 29 (0, 0)) ∧ w.heap.size < w2.heap.size) := Lib.hid ⟨HB.out.1.trans (b2.mono HB.out.1.size), x2, lt_of_block x2⟩
  have hs2 : w.heap.size + 1 ≤ w2.heap.size := H2.out.2.2
  clear b2 x2 q0 q1 HCR HB
  go_wp2_with (at_make; refine wpList_make_own _ rfl _ _ 32 rfl (w.heap.size + 1) 9 i0 (.string ⟨#[]⟩) 1 Tryd.underlying32 hi hz0 hz1 _ _ _ ds.length rfl rfl rfl (by rw [hz2]; omega) (by unfold maxLen; omega) hs2 ?_; intro w3 hown3 hgr3
               have b3 : Below w2.heap.size w2 w3 := Below.grown (Below.refl _ _) hgr3 (Nat.le_refl _) (fun k hk => by cases hk)
               have q3 : w3.cell? ⟨w.heap.size, 0, none⟩ = some (.slice a ds.length c) := by rw [b3.cell (lt_of_cell q2)]; exact q2
               have H3 : Aside (w3.ownsRow (w.heap.size + 1) 9 1 (.slice (some ⟨w2.heap.size, 0, none⟩) 0 ds.length) 0 [] ∧ Below w.heap.size w w3 ∧ w.heap.size + 1 ≤ w3.heap.size) := ⟨hown3, H2.out.1.trans (b3.mono (by omega)), by have := b3.size; omega⟩
               clear hown3 hgr3 b3)
  generalize w2.heap.size = g2 at H3 hs2 ⊢
  go_loopw [4, 17] (fun v i wr => ∃ k : Nat, k ≤ ds.length ∧ i = .int .i64 k ∧ v = .slice (some ⟨g2, 0, none⟩) k ds.length ∧ Hid (wr.ownsRow (w.heap.size + 1) 9 1 (.slice (some ⟨g2, 0, none⟩) k ds.length) k (txtCells ((ds.take k).map dT))) ∧ Hid (Below w.heap.size w wr) ∧ w.heap.size + 1 ≤ wr.heap.size) (fun _ i _ => ds.length - (intOf i).toNat)
  case atStart => exact ⟨0, Nat.zero_le _, rfl, rfl, Lib.hid H3.out.1, Lib.hid H3.out.2.1, H3.out.2.2⟩
  case round =>
    clear H3 q2
    obtain ⟨k, hk, rfl, rfl, HO, HBW, hsz⟩ := hrel
    by_cases hlt : k < ds.length
    · obtain ⟨B, off, u, rfl, k1, k2, k3⟩ := (HDW.out.below HBW.out).at hlt
      obtain ⟨hw0, hw1, hw2⟩ := HWS.out _ (List.getElem_mem hlt)
      have hdl := HLEN.out _ (List.getElem_mem hlt)
      have HTK : Hid ((ds.take (k + 1)).map dT = (ds.take k).map dT ++ [dT ds[k]]) := Lib.hid (by rw [List.take_succ_eq_append_getElem hlt, List.map_append]; rfl)
      obtain ⟨ua, uc, rfl⟩ := k3.form
      unfold strV at k1
      generalize ds[k] = d at *
      obtain ⟨X, hX⟩ : ∃ X : ByteArray, X = ⟨d.n.toArray⟩ := ⟨_, rfl⟩
      rw [← hX] at k1
      obtain ⟨TD, hTD⟩ : ∃ TD : ByteArray, TD = ⟨(dT d).toArray⟩ := ⟨_, rfl⟩
      have HTD := Lib.hid hTD
      have HXX : Hid (strV d.n = .string X) := Lib.hid (by unfold strV; rw [hX])
      -- the directive's own block, the row of one text
      have bd : Below wr.heap.size wr (wr.alloc (.cells #[.string X, .slice ua d.w.length uc] 42)) := (Below.refl _ _).alloc (Nat.le_refl _) _
      have xd := new_block wr (.cells #[.string X, .slice ua d.w.length uc] 42)
      have sd : (wr.alloc (.cells #[.string X, .slice ua d.w.length uc] 42)).heap.size = wr.heap.size + 1 := by show (wr.heap.push _).size = _; simp
      have kd := k3.below bd
      have p0 : (wr.alloc (.cells #[.string X, .slice ua d.w.length uc] 42)).cell? ⟨wr.heap.size, 0, none⟩ = some (.string X) := by rw [cell_of xd]; rfl
      have HD5 := Lib.hid (And.intro bd (And.intro xd (And.intro sd kd)))
      clear bd xd kd k3 hX hTD
      have be : Below (wr.alloc (.cells #[.string X, .slice ua d.w.length uc] 42)).heap.size (wr.alloc (.cells #[.string X, .slice ua d.w.length uc] 42)) ((wr.alloc (.cells #[.string X, .slice ua d.w.length uc] 42)).alloc (.cells #[.string X] 9)) := (Below.refl _ _).alloc (Nat.le_refl _) _
      have oe := own_one (wr.alloc (.cells #[.string X, .slice ua d.w.length uc] 42)) (.string X) (wr.alloc (.cells #[.string X, .slice ua d.w.length uc] 42)).heap.size (Nat.le_refl _)
      rw [sd] at oe
      have p1 : ((wr.alloc (.cells #[.string X, .slice ua d.w.length uc] 42)).alloc (.cells #[.string X] 9)).cell? ⟨wr.heap.size, 1, none⟩ = some (.slice ua d.w.length uc) := by rw [be.cell (by rw [sd]; exact Nat.lt_succ_self _), cell_of HD5.out.2.1]; rfl
      have HE5 := Lib.hid (And.intro be (And.intro oe (HD5.out.2.2.2.below be)))
      have tok1 : True := trivial
      have hsW : w.heap.size + 1 ≤ wr.heap.size := hsz
      clear be oe
      go_wp2_with (first
        | (at_builtin; have _t := tok1; refine wpList_append_in rfl _ _ rfl (wr.heap.size + 1) _ 1 [.string X] rfl HE5.out.2.1 _ d.w rfl HE5.out.2.2 (by omega) (by simp) ?_; intro v3 w5 hown5 hgr5; clear _t tok1
           obtain ⟨g5, c5, rfl⟩ : ∃ g5 c5, v3 = .slice (some ⟨g5, 0, none⟩) (1 + d.w.length) c5 := by
             rcases rowForms hown5 with ⟨_, h⟩ | h
             · omega
             · exact h
           have b5 : Below (wr.heap.size + 1) (wr.alloc (.cells #[.string X, .slice ua d.w.length uc] 42)) w5 := Below.grown (HE5.out.1.mono (by rw [sd]; exact Nat.le_refl _)) hgr5 (by simp) (fun q hq => by have := (HE5.out.2.1.lt q hq).1; exact this)
           have H5 : Aside (w5.ownsRow (wr.heap.size + 1) 9 1 (.slice (some ⟨g5, 0, none⟩) (1 + d.w.length) c5) (1 + d.w.length) (txtCells (d.n :: d.w)) ∧ Below wr.heap.size wr w5) := ⟨by unfold txtCells; rw [List.map_cons, HXX.out]; exact hown5, HD5.out.1.trans (b5.mono (by omega))⟩
           clear hown5 hgr5 b5)
        | (go_at_call 33; (with_reducible refine (join_own (d.n :: d.w) g5 c5 (1 + d.w.length) (by simp; omega) _ _ H5.out.1 ⟨#[32]⟩ TD (by rw [HTD.out]; exact (join_dT d).symm) (by show (Lib.join (d.n :: d.w) [32]).length ≤ _; rw [join_dT]; exact hdl) (by simp; omega)).mono ?_); rintro e w6 ⟨rfl, b6⟩
           have b66 : Below wr.heap.size wr w6 := H5.out.2.trans (b6.mono H5.out.2.size)
           have H6 : Aside (w6.ownsRow (w.heap.size + 1) 9 1 (.slice (some ⟨g2, 0, none⟩) k ds.length) k (txtCells ((ds.take k).map dT)) ∧ Below wr.heap.size wr w6) := ⟨ownsRow_below HO.out b66, b66⟩
           clear b6 b66)
        | (at_builtin; refine wpList_append_fits _ rfl _ _ 32 rfl (w.heap.size + 1) 9 i0 1 Tryd.underlying32 hi hz1 g2 k ds.length _ rfl (H6.out.1.alloc _) ⟨w6.heap.size, 0, none⟩ 1 1 [.string TD] rfl rfl (cell_one_new _ _ _) (fun x hx => by simp at hx; subst hx; rfl) (by omega) ?_; intro w7 hown7 hgr7
           have b7 : Below w.heap.size w w7 := Below.grown ((HBW.out.trans (H6.out.2.mono HBW.out.size)).alloc (by have h1 := HBW.out.size; have h2 := H6.out.2.size; omega) _) hgr7 (by have h1 := HBW.out.size; have h2 := H6.out.2.size; simp; omega) (fun q hq => by cases hq; omega)
           have H7 : Aside (w7.ownsRow (w.heap.size + 1) 9 1 (.slice (some ⟨g2, 0, none⟩) (k + 1) ds.length) (k + 1) (txtCells ((ds.take k).map dT) ++ [.string TD]) ∧ Below w.heap.size w w7 ∧ w.heap.size + 1 ≤ w7.heap.size) := ⟨hown7, b7, by have h1 := H6.out.2.size; have h2 := hgr7.size; simp at h2; omega⟩
           clear hown7 hgr7 b7))
      go_roundw
      case rel =>
        refine ⟨k + 1, by omega, by go_num, rfl, Lib.hid ?_, Lib.hid H7.out.2.1, H7.out.2.2⟩
        rw [HTK.out, txtCells_snoc]
        have e : strV (dT d) = .string TD := by rw [HTD.out]; rfl
        rw [e]
        exact H7.out.1
      case measure => simp [intOf]; omega
    · obtain rfl : k = ds.length := by omega
      have HOF : Hid (wr.ownsRow (w.heap.size + 1) 9 1 (.slice (some ⟨g2, 0, none⟩) ds.length ds.length) ds.length (txtCells (ds.map dT))) := Lib.hid (by have := HO.out; rw [List.take_length] at this; exact this)
      have CJ := Lib.hid (join_own (ds.map dT) g2 ds.length ds.length (by simp) _ wr HOF.out ⟨#[59, 32]⟩ T (by rw [HTT.out.1]; exact (join_pT ds).symm) (by show (Lib.join (ds.map dT) [59, 32]).length ≤ _; rw [join_pT]; exact HTT.out.2) (by simp; omega))
      clear HO
      go_wp2_with (go_at_call 33; (with_reducible refine CJ.out.mono ?_); rintro e w4 ⟨rfl, b4⟩
                   have H4 : Aside (Below w.heap.size w w4) := HBW.out.trans (b4.mono HBW.out.size)
                   clear b4)
      go_ret2
      exact ⟨rfl, H4.out⟩

end Go.Proofs.YtmlanlagnhnppaaDoor
