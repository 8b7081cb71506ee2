/- The walk: where a code point's bytes end, bytes may be cut; for every two slices of bytes. -/
import Derived.Test.YtnchaidmbdalbaaDoorApp
namespace Go.Proofs.YtnchaidmbdalbaaDoor
open Go.ChangeShapes Go.WideShapes Go.ChangeAt Go.RowKit

theorem dec_len (l : List UInt8) : (dec l).length ≤ 4 * l.length := by
  have h2 := (encs_len_le (pts l)).2
  have h3 := (pts_len l).1
  have h5 : (dec l).length = (encs (pts l)).length := rfl
  omega

set_option maxRecDepth 100000 in
set_option maxHeartbeats 4000000 in
theorem join_law (l m : List UInt8) (u v : Value) (w : World) (hu : BytesIn w u l) (hv : BytesIn w v m) (hT : Lib.Utf8Tabs 0 1 w) :
    Calls Tryd.prog 7 #[u, v] w fun e w' => e = .returned (.bool true) ∧ Below w.heap.size w w' := by
  obtain ⟨a, c, rfl⟩ := hu.form
  obtain ⟨a2, c2, rfl⟩ := hv.form
  by_cases hl : 5000 < l.length
  · have hz : (5000 : Int) < (l.length : Int) := by omega
    clear hl hu hv hT
    go_enter Tryd.func7, Tryd.ntmps7
    go_wp2
    go_ret
    exact ⟨rfl, Below.refl _ _⟩
  by_cases hm : 5000 < m.length
  · have hz : ¬ (5000 : Int) < (l.length : Int) := by omega
    have hz2 : (5000 : Int) < (m.length : Int) := by omega
    clear hl hm hu hv hT
    go_enter Tryd.func7, Tryd.ntmps7
    go_wp2
    go_ret
    exact ⟨rfl, Below.refl _ _⟩
  · obtain ⟨i0, hi, hz0, hz1, hz2'⟩ := info_parts Tinfo5
    have hz : ¬ (5000 : Int) < (l.length : Int) := by omega
    have hz2 : ¬ (5000 : Int) < (m.length : Int) := by omega
    have hl2 : l.length ≤ 1099511627776 := by omega
    have hm2 : m.length ≤ 1099511627776 := by omega
    have hdl := dec_len l
    have hdm := dec_len m
    have hj := dec_joined l m
    have hjl : (dec l ++ m).length ≤ 1099511627776 := by rw [List.length_append]; omega
    have HJ := Lib.hid hj
    have hadd : ∀ W, (Op.stringOp .add ⟨(dec l).toArray⟩ ⟨(dec m).toArray⟩).run Tryd.prog W = .ok (.string (⟨(dec l).toArray⟩ ++ ⟨(dec m).toArray⟩)) W := fun W => run_string_add_sum (P := Tryd.prog) W ⟨(dec l).toArray⟩ ⟨(dec m).toArray⟩ (by rw [bsize, bsize]; omega)
    have hall : ∀ (x : Value) (W : World), BytesIn W x (dec l ++ m) → Lib.Utf8Tabs 0 1 W → Calls Tryd.prog 10 #[x] W fun e W' => e = .returned (.string (⟨(dec l).toArray⟩ ++ ⟨(dec m).toArray⟩)) ∧ Below W.heap.size W W' := fun x W h1 h2 =>
      (decode_any (dec l ++ m) x W hjl h1 h2).mono fun e W' ⟨he, hb⟩ => ⟨by
        rw [he, hj]
        refine congrArg (fun x => Ending.returned (Value.string x)) ?_
        apply ByteArray.ext
        apply Array.toList_inj.1
        simp, hb⟩
    have HA := Lib.hid hall
    clear hall hj
    go_enter Tryd.func7, Tryd.ntmps7
    go_wp2_with fail
    refine (decode_any l _ _ hl2 hu hT).mono ?_
    rintro e w1 ⟨rfl, B1⟩
    have V1 := hv.below B1
    have T1 := tabs_below hT B1
    go_wp2_with (first
      | (at_builtin; refine Lib.wpList_append_own_string _ rfl _ _ 22 9 rfl w.heap.size 5 i0 Tryd.underlying22 Tryd.underlying9 hi hz0 hz1 hz2' _ 0 [] rfl (World.ownsRow_nil w1 w.heap.size 5 1) ⟨(dec l).toArray⟩ rfl (by rw [bsize]; unfold maxLen; omega) (by rw [bsize]; omega) B1.size ?_; intro v2 w2 hown2 hgrow2 _
         rw [bsize, Nat.zero_add, List.nil_append] at hown2
         have B2 : Below w.heap.size w w2 := Below.grown B1 hgrow2 B1.size (fun j hj => by cases hj)
         have B12 : Below w1.heap.size w1 w2 := Below.grown (Below.refl _ _) hgrow2 (Nat.le_refl _) (fun j hj => by cases hj)
         have V2 := V1.below B12
         have T2 := tabs_below hT B2
         clear hgrow2 B12 V1 T1)
      | (at_builtin; refine wpList_append_in22 rfl _ _ rfl w.heap.size _ (dec l).length (Lib.byteCells (dec l)) rfl hown2 _ m rfl V2 (by omega) B2.size ?_; intro v3 w3 hown3 hgrow3
         rw [← List.length_append, ← byteCells_append] at hown3
         have B3 : Below w.heap.size w w3 := Below.grown B2 hgrow3 B2.size (fun j hj => (hown2.lt _ hj).1)
         have V3 := hv.below B3
         have T3 := tabs_below hT B3
         have O3 := BytesIn.of_row hown3
         clear hgrow3 hown3 hown2 V2 T2)
      | (go_at_call 11; refine (decodes_any _ T3).mono ?_; rintro e w4 ⟨rfl, hb4⟩
         have B4 : Below w.heap.size w w4 := B3.trans (hb4.mono B3.size)
         have V4 := hv.below B4
         have T4 := tabs_below hT B4
         have O4 := O3.below hb4
         clear hb4 V3 T3 O3))
    refine (HA.out v3 w4 O4 T4).mono ?_
    rintro e w5 ⟨rfl, hb5⟩
    have B5 : Below w.heap.size w w5 := B4.trans (hb5.mono B4.size)
    have V5 := hv.below B5
    have T5 := tabs_below hT B5
    clear hb5
    go_wp2_with fail
    refine (decode_any m _ _ hm2 V5 T5).mono ?_
    rintro e w6 ⟨rfl, hb6⟩
    have B6 : Below w.heap.size w w6 := B5.trans (hb6.mono B5.size)
    have ha6 := hadd w6
    clear hb6 hadd
    go_wp2
    go_ret
    exact ⟨rfl, B6⟩

end Go.Proofs.YtnchaidmbdalbaaDoor
