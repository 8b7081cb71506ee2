/- The document's own: a node and all below it. -/
import Derived.Test.YtcmbkhlnigbooaaDoY
namespace Go.Proofs.Ytcmbkhlnigbooaa.Dm
open Go.RowKit

theorem row_made (w : World) (C : Array Value) (e : TypeId) (m size : Nat) (hs : C.size = m * size) (hm : m ≤ maxLen) : (w.alloc (.cells C e)).ownsRow w.heap.size e size (.slice (some ⟨w.heap.size, 0, none⟩) m m) m C.toList :=
  ⟨by simpa using hs, .inr ⟨_, m, C, rfl, Nat.le_refl _, new_block w _, Nat.le_refl _, hm, hs, List.take_of_length_le (by simp [hs])⟩⟩
theorem Tinfo3 : (Try.prog.info? 3).map (fun i => (i.zero, i.size, i.bytes)) = some (some (.int .i64 0), 1, 8) := by kernel_rfl
def natsI (l : List Nat) : List Int := l.map fun (n : Nat) => (n : Int)
theorem natsI_length (l : List Nat) : (natsI l).length = l.length := by simp [natsI]
theorem natsI_app (a b : List Nat) : natsI (a ++ b) = natsI a ++ natsI b := by simp [natsI]
theorem inC_app (a b : List Int) : inC (a ++ b) = inC a ++ inC b := by simp [inC]
/-- A row of numbers of one's own, which are these nodes. -/
def OwnI (w : World) (B : Nat) (v : Value) (l : List Nat) : Prop := w.ownsRow B 3 1 v l.length (inC (natsI l))
theorem OwnI.in' {w : World} {B : Nat} {v : Value} {l : List Nat} (h : OwnI w B v l) : IntIn w v (natsI l) := IntIn.of (base := B) (by rw [natsI_length]; exact h)
theorem OwnI.form {w : World} {B : Nat} {v : Value} {l : List Nat} (h : OwnI w B v l) : ∃ a c, v = .slice a l.length c := by
  obtain ⟨a, c, e⟩ := h.in'.form
  exact ⟨a, c, by rw [e, natsI_length]⟩
theorem OwnI.below {w w' : World} {B : Nat} {v : Value} {l : List Nat} (h : OwnI w B v l) (b : Below w.heap.size w w') : OwnI w' B v l := (Kp.of_below (P := fun _ _ => False) b).row h fun _ _ _ => id
/-- What was gathered, behind the first v kids. -/
def accM (D : List Nd) (i : Nat) (C : List Int) (v : Nat) : List Nat := i :: (C.take v).flatMap fun y => downM D y.toNat
theorem accM_step {D : List Nd} {i : Nat} {C : List Int} {v : Nat} (h : v < C.length) : accM D i C (v + 1) = accM D i C v ++ downM D C[v].toNat := by
  unfold accM
  rw [List.take_add_one, List.getElem?_eq_getElem h, List.flatMap_append]
  simp
theorem accM_end {D : List Nd} (R : Right D) {i : Nat} (hi : i < D.length) : accM D i D[i].c D[i].c.length = downM D i := by
  unfold accM
  rw [List.take_length, downM_eq R hi, kid_at hi]
theorem accM_len {D : List Nd} (R : Right D) {i : Nat} (hi : i < D.length) (v : Nat) : (accM D i D[i].c v).length ≤ 300 := by
  have h1 := down_len R hi
  have h2 := R.len
  have h3 : (accM D i D[i].c v).length ≤ (downM D i).length := by
    rw [← accM_end R hi]
    unfold accM
    rw [List.take_length, List.length_cons, List.length_cons]
    have e := List.take_append_drop v D[i].c
    have h4 := congrArg (fun l => (l.flatMap fun y => downM D y.toNat).length) e
    simp only [List.flatMap_append, List.length_append] at h4
    omega
  omega

theorem OwnI.low {w : World} {B B' : Nat} {v : Value} {l : List Nat} (h : OwnI w B v l) (hB : B' ≤ B) : OwnI w B' v l := by
  obtain ⟨h1, h2⟩ := h
  refine ⟨h1, ?_⟩
  rcases h2 with h2 | ⟨g, cap, cur, a, b, c⟩
  · exact .inl h2
  · exact .inr ⟨g, cap, cur, a, Nat.le_trans hB b, c⟩
theorem OwnI.app {w : World} {B : Nat} {v : Value} {a b : List Nat} (h : w.ownsRow B 3 1 v (a.length + (natsI b).length) (inC (natsI a) ++ inC (natsI b))) : OwnI w B v (a ++ b) := by
  unfold OwnI
  rw [natsI_app, inC_app, List.length_append]
  rw [natsI_length] at h
  exact h
/-- A row of one's own has grown: the document that came in, and its box, stay. -/
theorem doc_grown {w w2 w3 : World} {Rb : Nat} {sl u v : Value} {D : List Nd} {A K : Nat → Value} {l l' : List Nat} (h0 : DocIn w sl D A K) (h1 : Below w.heap.size w w2) (h2 : w2.heap[Rb]? = some (.cells #[sl] 24 (0, 0))) (h3 : OwnI w2 w.heap.size u l) (hg : w2.grownBy w3 u.ownBlock) (h4 : OwnI w3 w.heap.size v l') :
    DocIn w3 sl D A K ∧ w3.heap[Rb]? = some (.cells #[sl] 24 (0, 0)) ∧ Below w.heap.size w w3 ∧ OwnI w3 w.heap.size v l' := by
  have b3 : Below w.heap.size w w3 := Below.grown h1 hg h1.size (fun j hj => (h3.lt j hj).1)
  refine ⟨h0.below b3, ?_, b3, h4⟩
  have k : Kp (fun j _ => u.ownBlock = some j) w2 w3 := Kp.of_grown hg (fun k c t fr hk _ => hk) fun k hk => by
    obtain ⟨cur, e, _⟩ := row_block h3 hk
    exact ⟨_, _, _, e⟩
  refine k.cells h2 fun e => ?_
  obtain ⟨cur, e2, _⟩ := row_block h3 e
  rw [h2] at e2
  cases e2
def DownP (D : List Nd) (i : Nat) : Prop := ∀ W sl A K, DocIn W sl D A K → Calls Try.prog 51 #[.agg #[sl], .int .i64 (i : Int)] W fun e w' => ∃ v, e = .returned v ∧ OwnI w' W.heap.size v (downM D i) ∧ Below W.heap.size W w'
set_option maxRecDepth 100000 in
set_option maxHeartbeats 8000000 in
theorem down_step (D : List Nd) (R : Right D) (hf : FitD D) (i : Nat) (hi : i < D.length) (ih : ∀ y ∈ kid D i, DownP D y.toNat) : DownP D i := fun w sl A K hd => by
  obtain ⟨a, c, rfl⟩ := hd.form
  obtain ⟨d1, b1, l1⟩ := docBox w hd
  have hfl := hf.1
  generalize hw1 : w.alloc (.cells #[.slice a D.length c] 24) = w1 at d1 b1 l1
  obtain ⟨Rb, hR⟩ : ∃ R, w.heap.size = R := ⟨_, rfl⟩
  have b1' := b1
  rw [hR] at b1'
  have e0 := cell_of b1' 0
  have hrow := row_made w1 #[.int .i64 (i : Int)] 3 1 1 rfl (by decide)
  have al := (Below.refl w1.heap.size w1).alloc (Nat.le_refl _) (.cells #[.int .i64 (i : Int)] 3)
  have hrow2 : OwnI (w1.alloc (.cells #[.int .i64 (i : Int)] 3)) w.heap.size (.slice (some ⟨w1.heap.size, 0, none⟩) 1 1) (accM D i D[i].c 0) := by
    have h0 : accM D i D[i].c 0 = [i] := by simp [accM]
    rw [h0]
    obtain ⟨h1, h2⟩ := hrow
    refine ⟨h1, ?_⟩
    rcases h2 with ⟨h2, _⟩ | ⟨g, cap, cur, h3, h4, h5⟩
    · cases h2
    · exact .inr ⟨g, cap, cur, h3, Nat.le_trans l1.size h4, h5⟩
  have zi : (i : Int) < (D.length : Int) := by omega
  have H1 := Lib.hid (And.intro (d1.below al) (And.intro ((al.block _ (lt_of_block b1')).trans b1') (And.intro (l1.trans (al.mono l1.size)) hrow2)))
  have HR := Lib.hid (And.intro R hi)
  have HI : Hid (∀ v (h : v < D[i].c.length), DownP D D[i].c[v].toNat ∧ ∃ t : Nat, D[i].c[v] = t ∧ t < D.length) := Lib.hid fun v h => by
    have hm : D[i].c[v] ∈ kid D i := by rw [kid_at hi]; exact List.getElem_mem h
    obtain ⟨t, e, ht, _⟩ := kid_pos R hm
    exact ⟨ih _ hm, t, e, ht⟩
  have HL : Hid (∀ v, (accM D i D[i].c v).length ≤ 300) := Lib.hid fun v => accM_len R hi v
  have HE : Hid (accM D i D[i].c D[i].c.length = downM D i) := Lib.hid (accM_end R hi)
  have hlen : D[i].c.length ≤ 1000 := (hf.2 _ (List.getElem_mem hi)).2.2.2.1
  have HD0 := Lib.hid hd
  clear hd d1 b1 b1' l1 hf R ih hrow hrow2 al
  obtain ⟨i0, hi3, hz0, hz1, hz2⟩ := info_parts Tinfo3
  go_enter Try.func51, Try.ntmps51
  go_wp2
  clear hw1
  go_loopw [5, 6] (fun ov j wr => ∃ v : Nat, j = .int .i64 v ∧ v ≤ D[i].c.length ∧ Hid (DocIn wr (.slice a D.length c) D A K ∧ wr.heap[Rb]? = some (.cells #[.slice a D.length c] 24 (0, 0)) ∧ Below w.heap.size w wr ∧ OwnI wr w.heap.size ov (accM D i D[i].c v))) (fun _ j _ => D[i].c.length - (intOf j).toNat)
  case atStart => exact ⟨0, rfl, Nat.zero_le _, H1⟩
  case round =>
    clear H1 e0
    obtain ⟨v, rfl, hv, HX⟩ := hrel
    have e0 := cell_of HX.out.2.1 0
    obtain ⟨B, off, rfl, -, -, -, -, -, c5, -, -⟩ := HX.out.1.node hi
    obtain ⟨ka, kc, hk⟩ := (HX.out.1.kd i hi).form
    rw [hk] at c5
    have HK : Hid (IntIn wr (.slice ka D[i].c.length kc) D[i].c) := Lib.hid (by rw [← hk]; exact HX.out.1.kd i hi)
    clear hk
    by_cases hlv : v < D[i].c.length
    · obtain ⟨B2, off2, rfl, k0⟩ := HK.out.at hlv
      obtain ⟨hdn, t, ht, htl⟩ := HI.out v hlv
      have hst := accM_step (D := D) (i := i) hlv
      rw [ht] at k0 hdn hst
      rw [Int.toNat_natCast] at hdn hst
      have HC : Hid (∀ W, Below wr.heap.size wr W → Calls Try.prog 51 #[.agg #[.slice (some ⟨B, off, none⟩) D.length c], .int .i64 (t : Int)] W fun e w' => ∃ lv, e = .returned lv ∧ OwnI w' wr.heap.size lv (downM D t) ∧ Below wr.heap.size wr w') :=
        Lib.hid fun W b => (hdn W _ A K (HX.out.1.below b)).mono fun e w' ⟨lv, h1, h2, h3⟩ => ⟨lv, h1, h2.low b.size, b.trans (h3.mono b.size)⟩
      have HS := Lib.hid hst
      have zv : (v : Int) < (D[i].c.length : Int) := by omega
      have hl1 := HL.out v
      have hl2 := HL.out (v + 1)
      rw [hst, List.length_append] at hl2
      have HN := Lib.hid (And.intro hl1 hl2)
      clear hdn hst ht hl1 hl2
      go_wp2
      go_region_with (go_at_call 51; refine (HC.out _ (by first | exact Below.refl _ _ | exact belowN (Below.refl _ _) _ | exact (Below.refl _ _).drew)).mono ?_; rintro e w2 ⟨lv, rfl, o2, b2⟩)
      all_goals
        have H2 : Hid (DocIn w2 (.slice (some ⟨B, off, none⟩) D.length c) D A K ∧ w2.heap[Rb]? = some (.cells #[.slice (some ⟨B, off, none⟩) D.length c] 24 (0, 0)) ∧ Below w.heap.size w w2 ∧ OwnI w2 w.heap.size u5 (accM D i D[i].c v) ∧ OwnI w2 wr.heap.size lv (downM D t)) :=
          Lib.hid ⟨HX.out.1.below b2, (b2.block _ (lt_of_block HX.out.2.1)).trans HX.out.2.1, HX.out.2.2.1.trans (b2.mono HX.out.2.2.1.size), HX.out.2.2.2.below b2, o2⟩
        clear b2 o2 HX HC e0 c5 k0
        go_wp2_with (at_builtin
                     refine wpList_append_rowG rfl _ _ 33 3 i0 (.int .i64 0) 1 8 Try.underlying33 hi3 hz0 hz1 hz2 rfl (by decide) rfl w.heap.size _ _ _ rfl H2.out.2.2.2.1 _ _ _ rfl H2.out.2.2.2.2.in' (by rw [natsI_length]; have := HN.out; unfold maxLen; omega) (by rw [natsI_length]; have := HN.out; omega) H2.out.2.2.1.size ?_
                     intro v3 w3 hown hgr hblk
                     have H3 : Hid (DocIn w3 (.slice (some ⟨B, off, none⟩) D.length c) D A K ∧ w3.heap[Rb]? = some (.cells #[.slice (some ⟨B, off, none⟩) D.length c] 24 (0, 0)) ∧ Below w.heap.size w w3 ∧ OwnI w3 w.heap.size v3 (accM D i D[i].c (v + 1))) := Lib.hid (doc_grown HD0.out H2.out.2.2.1 H2.out.2.1 H2.out.2.2.2.1 hgr (by rw [HS.out]; exact OwnI.app hown))
                     clear hown hgr hblk H2)
        go_roundw
        case rel => exact ⟨v + 1, by go_num, by omega, H3⟩
        case measure => simp [intOf]; omega
    · obtain rfl : v = D[i].c.length := by omega
      have H2 : Hid (OwnI wr w.heap.size u5 (downM D i) ∧ Below w.heap.size w wr) := Lib.hid ⟨by have := HX.out.2.2.2; rw [HE.out] at this; exact this, HX.out.2.2.1⟩
      clear HX
      go_wp2
      go_ret
      exact ⟨_, rfl, H2.out⟩

theorem down_hid (D : List Nd) (R : Right D) (hf : FitD D) (i : Nat) (hi : i < D.length) : Hid (DownP D i) := Lib.hid (R.indDown (DownP D) (fun i hi ih => down_step D R hf i hi ih) i hi)
def belowM (D : List Nd) (n : Int) : List Nat := if thereM D n = true then downM D n.toNat else []
set_option maxRecDepth 100000 in
set_option maxHeartbeats 4000000 in
theorem below_hid (D : List Nd) (hf : FitD D) (n : Int) : Hid (∀ W sl A K, DocIn W sl D A K → Calls Try.prog 20 #[.agg #[sl], .int .i64 n] W fun e w' => ∃ v, e = .returned v ∧ OwnI w' W.heap.size v (belowM D n) ∧ Below W.heap.size W w') := Lib.hid fun w sl A K hd => by
  obtain ⟨a, c, rfl⟩ := hd.form
  obtain ⟨d1, b1, l1⟩ := docBox w hd
  have CT := there_hid D hf n
  generalize hw1 : w.alloc (.cells #[.slice a D.length c] 24) = w1 at d1 b1 l1
  have e0 := cell_of b1 0
  have H1 := Lib.hid (And.intro d1 (And.intro b1 l1))
  have HF := Lib.hid hf
  clear hd d1 b1 l1 hf
  cases ht : thereM D n with
  | false =>
    rw [ht] at CT
    have HE : Hid (belowM D n = []) := Lib.hid (by unfold belowM; rw [ht]; rfl)
    go_enter Try.func20, Try.ntmps20
    go_wp2_with fail
    (refine (CT.out _ _ _ _ H1.out.1).mono ?_)
    rintro e w2 ⟨rfl, b2⟩
    have H2 := Lib.hid (H1.out.2.2.trans (b2.mono H1.out.2.2.size))
    clear b2 hw1 CT
    go_wp2
    go_ret
    exact ⟨_, rfl, by rw [HE.out]; exact World.ownsRow_nil _ _ _ _, H2.out⟩
  | true =>
    rw [ht] at CT
    obtain ⟨R, i, rfl, hi⟩ := there_right ht
    have HE : Hid (belowM D (i : Int) = downM D i) := Lib.hid (by unfold belowM; rw [if_pos ht, Int.toNat_natCast])
    have CD := down_hid D R HF.out i hi
    clear ht R
    go_enter Try.func20, Try.ntmps20
    go_wp2_with fail
    (refine (CT.out _ _ _ _ H1.out.1).mono ?_)
    rintro e w2 ⟨rfl, b2⟩
    obtain ⟨d2, bx2⟩ := H1.out.1.boxed H1.out.2.1 b2
    have e0 := cell_of bx2 0
    have H2 := Lib.hid (And.intro d2 (H1.out.2.2.trans (b2.mono H1.out.2.2.size)))
    clear b2 hw1 CT d2 bx2 H1
    go_wp2_with fail
    (refine (CD.out _ _ _ _ H2.out.1).mono ?_)
    rintro e w3 ⟨v, rfl, o3, b3⟩
    have H3 := Lib.hid (And.intro (o3.low (B' := w.heap.size) H2.out.2.size) (H2.out.2.trans (b3.mono H2.out.2.size)))
    clear o3 b3 H2 CD
    go_wp2
    go_ret
    exact ⟨_, rfl, by rw [HE.out]; exact H3.out.1, H3.out.2⟩

end Go.Proofs.Ytcmbkhlnigbooaa.Dm
