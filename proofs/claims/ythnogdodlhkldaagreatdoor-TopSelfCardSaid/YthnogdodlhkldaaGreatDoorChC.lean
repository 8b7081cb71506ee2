/- What a policy's sources say of a request: the program's. -/
import Derived.Test.YthnogdodlhkldaaGreatDoorChB
import Derived.Test.YthnogdodlhkldaaGreatDoorAlwZ
namespace Go.Proofs.YthnogdodlhkldaaGreatDoor
open Go.RowKit

theorem DirsIn.made {w : World} {v : Value} {ds : List D} (h : DirsIn w v ds) (x : Obj) : DirsIn (w.alloc x) v ds := h.below ((Below.refl _ _).alloc (Nat.le_refl _) _)
theorem PolsIn.made {w : World} {v : Value} {ps : List (List D × Bool)} (h : PolsIn w v ps) (x : Obj) : PolsIn (w.alloc x) v ps := h.below ((Below.refl _ _).alloc (Nat.le_refl _) _)
theorem listS_far {ws : List (List UInt8)} (h : ∀ x ∈ ws, x.length ≤ 10000) : ∀ a ∈ listS ws, a.h.length ≤ 100000 ∧ a.pa.length ≤ 100000 := fun a ha => by
  obtain ⟨l, hl, hp⟩ := List.mem_filterMap.1 ha
  rw [parse_O, Option.filter_eq_some_iff] at hp
  obtain ⟨_, _, h3, h4⟩ := cutO_len hp.1
  have := h l hl
  exact ⟨by omega, by omega⟩
/-- A request, as it is asked. -/
def rqM (rk : Int) (rt : ByteArray) (o : Bool) (s2 h2 : ByteArray) (p : Int) (pa2 q2 : ByteArray) (mv : Bool) (rn : ByteArray) (pr : Bool) (o3 : Bool) (s3 h3 : ByteArray) (p3 : Int) (pa3 q3 : ByteArray) : Rq := ⟨rk, rt.data.toList, uM o s2 h2 p pa2 q2, mv, rn.data.toList, pr, uM o3 s3 h3 p3 pa3 q3⟩

set_option maxRecDepth 100000 in
set_option maxHeartbeats 8000000 in
theorem lets_two (L : List Src) (v : Value) (rt : ByteArray) (o : Bool) (s2 h2 : ByteArray) (p : Int) (pa2 q2 : ByteArray) (mv : Bool) (rn : ByteArray) (pr : Bool) (o3 : Bool) (s3 h3 : ByteArray) (p3 : Int) (pa3 q3 : ByteArray)  (b : Bool) (C1 : Hid (∀ W, Low W → SrcsIn W v L → Calls Tryz.prog 67 #[v, reqV 2 rt o s2 h2 p pa2 q2 mv rn pr o3 s3 h3 p3 pa3 q3] W fun e w' => e = .returned (.bool b) ∧ Below W.heap.size W w')) (w : World) (hw : Low w) (hv : SrcsIn w v L) : Calls Tryz.prog 43 #[v, reqV 2 rt o s2 h2 p pa2 q2 mv rn pr o3 s3 h3 p3 pa3 q3] w fun e w' => e = .returned (.bool b) ∧ Below w.heap.size w w' := by
  unfold reqV at *
  go_enter Tryz.func43, Tryz.ntmps43
  go_wp2_with fail
  have xn := RX.made w 2 rt o s2 h2 p pa2 q2 mv rn pr o3 s3 h3 p3 pa3 q3
  have gw1 := hw.made (.cells #[.int .i64 2, .string rt, .bool o, .string s2, .string h2, .int .i64 p, .string pa2, .string q2, .bool mv, .string rn, .bool pr, .bool o3, .string s3, .string h3, .int .i64 p3, .string pa3, .string q3] 42)
  have lw1 := hv.made (.cells #[.int .i64 2, .string rt, .bool o, .string s2, .string h2, .int .i64 p, .string pa2, .string q2, .bool mv, .string rn, .bool pr, .bool o3, .string s3, .string h3, .int .i64 p3, .string pa3, .string q3] 42)
  have Bw1 : Below w.heap.size w (w.alloc (.cells #[.int .i64 2, .string rt, .bool o, .string s2, .string h2, .int .i64 p, .string pa2, .string q2, .bool mv, .string rn, .bool pr, .bool o3, .string s3, .string h3, .int .i64 p3, .string pa3, .string q3] 42)) := ((Below.refl w.heap.size w).alloc (Nat.le_refl _) (.cells #[.int .i64 2, .string rt, .bool o, .string s2, .string h2, .int .i64 p, .string pa2, .string q2, .bool mv, .string rn, .bool pr, .bool o3, .string s3, .string h3, .int .i64 p3, .string pa3, .string q3] 42))
  generalize hR : w.heap.size = Ra at xn Bw1 ⊢
  have HR := Lib.hid hR
  clear hR
  generalize w.alloc (.cells #[.int .i64 2, .string rt, .bool o, .string s2, .string h2, .int .i64 p, .string pa2, .string q2, .bool mv, .string rn, .bool pr, .bool o3, .string s3, .string h3, .int .i64 p3, .string pa3, .string q3] 42) = w1 at xn gw1 lw1 Bw1  ⊢
  have xRa_w1 := xn
  clear xn hw hv
  refine (C1.out _ gw1 lw1).mono ?_
  rintro e w2 ⟨rfl, b_⟩
  have gw2 := gw1.below b_
  have lw2 := lw1.below b_
  have Bw2 := Bw1.trans (b_.mono (Nat.le_of_lt xRa_w1.lt))
  have xRa_w2 := xRa_w1.below b_
  clear b_ gw1 lw1 Bw1 xRa_w1
  go_wp2
  go_ret
  exact ⟨rfl, by rw [HR.out]; exact Bw2⟩

set_option maxRecDepth 100000 in
set_option maxHeartbeats 8000000 in
theorem lets_five (L : List Src) (v : Value) (rt : ByteArray) (o : Bool) (s2 h2 : ByteArray) (p : Int) (pa2 q2 : ByteArray) (mv : Bool) (rn : ByteArray) (pr : Bool) (o3 : Bool) (s3 h3 : ByteArray) (p3 : Int) (pa3 q3 : ByteArray)  (b : Bool) (C1 : Hid (∀ W, SrcsIn W v L → Calls Tryz.prog 68 #[v, .int .i64 5] W fun e w' => e = .returned (.bool b) ∧ Below W.heap.size W w')) (w : World) (hw : Low w) (hv : SrcsIn w v L) : Calls Tryz.prog 43 #[v, reqV 5 rt o s2 h2 p pa2 q2 mv rn pr o3 s3 h3 p3 pa3 q3] w fun e w' => e = .returned (.bool b) ∧ Below w.heap.size w w' := by
  unfold reqV at *
  go_enter Tryz.func43, Tryz.ntmps43
  go_wp2_with fail
  have xn := RX.made w 5 rt o s2 h2 p pa2 q2 mv rn pr o3 s3 h3 p3 pa3 q3
  have gw1 := hw.made (.cells #[.int .i64 5, .string rt, .bool o, .string s2, .string h2, .int .i64 p, .string pa2, .string q2, .bool mv, .string rn, .bool pr, .bool o3, .string s3, .string h3, .int .i64 p3, .string pa3, .string q3] 42)
  have lw1 := hv.made (.cells #[.int .i64 5, .string rt, .bool o, .string s2, .string h2, .int .i64 p, .string pa2, .string q2, .bool mv, .string rn, .bool pr, .bool o3, .string s3, .string h3, .int .i64 p3, .string pa3, .string q3] 42)
  have Bw1 : Below w.heap.size w (w.alloc (.cells #[.int .i64 5, .string rt, .bool o, .string s2, .string h2, .int .i64 p, .string pa2, .string q2, .bool mv, .string rn, .bool pr, .bool o3, .string s3, .string h3, .int .i64 p3, .string pa3, .string q3] 42)) := ((Below.refl w.heap.size w).alloc (Nat.le_refl _) (.cells #[.int .i64 5, .string rt, .bool o, .string s2, .string h2, .int .i64 p, .string pa2, .string q2, .bool mv, .string rn, .bool pr, .bool o3, .string s3, .string h3, .int .i64 p3, .string pa3, .string q3] 42))
  generalize hR : w.heap.size = Ra at xn Bw1 ⊢
  have HR := Lib.hid hR
  clear hR
  generalize w.alloc (.cells #[.int .i64 5, .string rt, .bool o, .string s2, .string h2, .int .i64 p, .string pa2, .string q2, .bool mv, .string rn, .bool pr, .bool o3, .string s3, .string h3, .int .i64 p3, .string pa3, .string q3] 42) = w1 at xn gw1 lw1 Bw1  ⊢
  have xRa_w1 := xn
  clear xn hw hv
  refine (C1.out _ lw1).mono ?_
  rintro e w2 ⟨rfl, b_⟩
  have gw2 := gw1.below b_
  have lw2 := lw1.below b_
  have Bw2 := Bw1.trans (b_.mono (Nat.le_of_lt xRa_w1.lt))
  have xRa_w2 := xRa_w1.below b_
  clear b_ gw1 lw1 Bw1 xRa_w1
  go_wp2
  go_ret
  exact ⟨rfl, by rw [HR.out]; exact Bw2⟩

set_option maxRecDepth 100000 in
set_option maxHeartbeats 8000000 in
theorem lets_six (L : List Src) (v : Value) (rt : ByteArray) (o : Bool) (s2 h2 : ByteArray) (p : Int) (pa2 q2 : ByteArray) (mv : Bool) (rn : ByteArray) (pr : Bool) (o3 : Bool) (s3 h3 : ByteArray) (p3 : Int) (pa3 q3 : ByteArray)  (b : Bool) (C1 : Hid (∀ W, SrcsIn W v L → Calls Tryz.prog 68 #[v, .int .i64 6] W fun e w' => e = .returned (.bool b) ∧ Below W.heap.size W w')) (w : World) (hw : Low w) (hv : SrcsIn w v L) : Calls Tryz.prog 43 #[v, reqV 6 rt o s2 h2 p pa2 q2 mv rn pr o3 s3 h3 p3 pa3 q3] w fun e w' => e = .returned (.bool b) ∧ Below w.heap.size w w' := by
  unfold reqV at *
  go_enter Tryz.func43, Tryz.ntmps43
  go_wp2_with fail
  have xn := RX.made w 6 rt o s2 h2 p pa2 q2 mv rn pr o3 s3 h3 p3 pa3 q3
  have gw1 := hw.made (.cells #[.int .i64 6, .string rt, .bool o, .string s2, .string h2, .int .i64 p, .string pa2, .string q2, .bool mv, .string rn, .bool pr, .bool o3, .string s3, .string h3, .int .i64 p3, .string pa3, .string q3] 42)
  have lw1 := hv.made (.cells #[.int .i64 6, .string rt, .bool o, .string s2, .string h2, .int .i64 p, .string pa2, .string q2, .bool mv, .string rn, .bool pr, .bool o3, .string s3, .string h3, .int .i64 p3, .string pa3, .string q3] 42)
  have Bw1 : Below w.heap.size w (w.alloc (.cells #[.int .i64 6, .string rt, .bool o, .string s2, .string h2, .int .i64 p, .string pa2, .string q2, .bool mv, .string rn, .bool pr, .bool o3, .string s3, .string h3, .int .i64 p3, .string pa3, .string q3] 42)) := ((Below.refl w.heap.size w).alloc (Nat.le_refl _) (.cells #[.int .i64 6, .string rt, .bool o, .string s2, .string h2, .int .i64 p, .string pa2, .string q2, .bool mv, .string rn, .bool pr, .bool o3, .string s3, .string h3, .int .i64 p3, .string pa3, .string q3] 42))
  generalize hR : w.heap.size = Ra at xn Bw1 ⊢
  have HR := Lib.hid hR
  clear hR
  generalize w.alloc (.cells #[.int .i64 6, .string rt, .bool o, .string s2, .string h2, .int .i64 p, .string pa2, .string q2, .bool mv, .string rn, .bool pr, .bool o3, .string s3, .string h3, .int .i64 p3, .string pa3, .string q3] 42) = w1 at xn gw1 lw1 Bw1  ⊢
  have xRa_w1 := xn
  clear xn hw hv
  refine (C1.out _ lw1).mono ?_
  rintro e w2 ⟨rfl, b_⟩
  have gw2 := gw1.below b_
  have lw2 := lw1.below b_
  have Bw2 := Bw1.trans (b_.mono (Nat.le_of_lt xRa_w1.lt))
  have xRa_w2 := xRa_w1.below b_
  clear b_ gw1 lw1 Bw1 xRa_w1
  go_wp2
  go_ret
  exact ⟨rfl, by rw [HR.out]; exact Bw2⟩

set_option maxRecDepth 100000 in
set_option maxHeartbeats 8000000 in
theorem lets_in (L : List Src) (v : Value) (rk : Int) (rt : ByteArray) (o : Bool) (s2 h2 : ByteArray) (p : Int) (pa2 q2 : ByteArray) (mv : Bool) (rn : ByteArray) (pr : Bool) (o3 : Bool) (s3 h3 : ByteArray) (p3 : Int) (pa3 q3 : ByteArray) (n2 : (rk == 2) = false) (n5 : (rk == 5) = false) (n6 : (rk == 6) = false) (b : Bool) (C1 : Hid (∀ W, SrcsIn W v L → Calls Tryz.prog 69 #[v, .int .i64 rk, .string rn, .string rt] W fun e w' => e = .returned (.bool b) ∧ Below W.heap.size W w')) (w : World) (hw : Low w) (hv : SrcsIn w v L) : Calls Tryz.prog 43 #[v, reqV rk rt o s2 h2 p pa2 q2 mv rn pr o3 s3 h3 p3 pa3 q3] w fun e w' => e = .returned (.bool b) ∧ Below w.heap.size w w' := by
  unfold reqV at *
  go_enter Tryz.func43, Tryz.ntmps43
  go_wp2_with fail
  have xn := RX.made w rk rt o s2 h2 p pa2 q2 mv rn pr o3 s3 h3 p3 pa3 q3
  have gw1 := hw.made (.cells #[.int .i64 rk, .string rt, .bool o, .string s2, .string h2, .int .i64 p, .string pa2, .string q2, .bool mv, .string rn, .bool pr, .bool o3, .string s3, .string h3, .int .i64 p3, .string pa3, .string q3] 42)
  have lw1 := hv.made (.cells #[.int .i64 rk, .string rt, .bool o, .string s2, .string h2, .int .i64 p, .string pa2, .string q2, .bool mv, .string rn, .bool pr, .bool o3, .string s3, .string h3, .int .i64 p3, .string pa3, .string q3] 42)
  have Bw1 : Below w.heap.size w (w.alloc (.cells #[.int .i64 rk, .string rt, .bool o, .string s2, .string h2, .int .i64 p, .string pa2, .string q2, .bool mv, .string rn, .bool pr, .bool o3, .string s3, .string h3, .int .i64 p3, .string pa3, .string q3] 42)) := ((Below.refl w.heap.size w).alloc (Nat.le_refl _) (.cells #[.int .i64 rk, .string rt, .bool o, .string s2, .string h2, .int .i64 p, .string pa2, .string q2, .bool mv, .string rn, .bool pr, .bool o3, .string s3, .string h3, .int .i64 p3, .string pa3, .string q3] 42))
  generalize hR : w.heap.size = Ra at xn Bw1 ⊢
  have HR := Lib.hid hR
  clear hR
  generalize w.alloc (.cells #[.int .i64 rk, .string rt, .bool o, .string s2, .string h2, .int .i64 p, .string pa2, .string q2, .bool mv, .string rn, .bool pr, .bool o3, .string s3, .string h3, .int .i64 p3, .string pa3, .string q3] 42) = w1 at xn gw1 lw1 Bw1  ⊢
  have xRa_w1 := xn
  clear xn hw hv
  refine (C1.out _ lw1).mono ?_
  rintro e w2 ⟨rfl, b_⟩
  have gw2 := gw1.below b_
  have lw2 := lw1.below b_
  have Bw2 := Bw1.trans (b_.mono (Nat.le_of_lt xRa_w1.lt))
  have xRa_w2 := xRa_w1.below b_
  clear b_ gw1 lw1 Bw1 xRa_w1
  go_wp2
  go_ret
  exact ⟨rfl, by rw [HR.out]; exact Bw2⟩
theorem lets_any (L : List Src) (v : Value) (hl : L.length ≤ 1000000) (hL : ∀ a ∈ L, a.h.length ≤ 100000 ∧ a.pa.length ≤ 100000) (rk : Int) (rt : ByteArray) (o : Bool) (s2 h2 : ByteArray) (p : Int) (pa2 q2 : ByteArray) (mv : Bool) (rn : ByteArray) (pr : Bool) (o3 : Bool) (s3 h3 : ByteArray) (p3 : Int) (pa3 q3 : ByteArray) (zt : rt.size ≤ 100000) (su1 : s2.size ≤ 100000) (su2 : h2.size ≤ 100000) (su3 : pa2.size ≤ 100000) (su4 : q2.size ≤ 100000) (sv1 : s3.size ≤ 100000) (sv2 : h3.size ≤ 100000) (sv3 : pa3.size ≤ 100000) (sv4 : q3.size ≤ 100000) (b : Bool) (hb : saysC L (rqM rk rt o s2 h2 p pa2 q2 mv rn pr o3 s3 h3 p3 pa3 q3) = b) (w : World) (hw : Low w) (hv : SrcsIn w v L) : Calls Tryz.prog 43 #[v, reqV rk rt o s2 h2 p pa2 q2 mv rn pr o3 s3 h3 p3 pa3 q3] w fun e w' => e = .returned (.bool b) ∧ Below w.heap.size w w' := by
  unfold saysC rqM at hb
  simp only [] at hb
  by_cases e2 : rk = 2
  · subst e2
    rw [if_pos rfl] at hb
    exact lets_two L v rt o s2 h2 p pa2 q2 mv rn pr o3 s3 h3 p3 pa3 q3 b (alwFetch_hid L v hl hL 2 rt o s2 h2 p pa2 q2 mv rn pr o3 s3 h3 p3 pa3 q3 su1 su2 su3 su4 sv1 sv2 sv3 sv4 b hb) w hw hv
  rw [if_neg e2] at hb
  by_cases e5 : rk = 5
  · subst e5
    rw [if_pos (.inl rfl)] at hb
    exact lets_five L v rt o s2 h2 p pa2 q2 mv rn pr o3 s3 h3 p3 pa3 q3 b (alwEval_hid L v hl 5 b hb) w hw hv
  by_cases e6 : rk = 6
  · subst e6
    rw [if_pos (.inr rfl)] at hb
    exact lets_six L v rt o s2 h2 p pa2 q2 mv rn pr o3 s3 h3 p3 pa3 q3 b (alwEval_hid L v hl 6 b hb) w hw hv
  rw [if_neg (by omega)] at hb
  exact lets_in L v rk rt o s2 h2 p pa2 q2 mv rn pr o3 s3 h3 p3 pa3 q3 (beq_eq_false_iff_ne.2 e2) (beq_eq_false_iff_ne.2 e5) (beq_eq_false_iff_ne.2 e6) b (alwInline_hid L v hl rk rn rt zt b hb) w hw hv

end Go.Proofs.YthnogdodlhkldaaGreatDoor
