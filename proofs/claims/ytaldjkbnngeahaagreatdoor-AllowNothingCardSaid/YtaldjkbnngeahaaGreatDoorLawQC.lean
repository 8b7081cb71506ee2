/- A list of nothing, or of 'none' alone, lets nothing be; one with 'strict-dynamic' alone fetches just what no parser laid. -/
import Derived.Test.YtaldjkbnngeahaaGreatDoorRowsQ
namespace Go.Proofs.YtaldjkbnngeahaaGreatDoor
open Go.RowKit

def noneS : Src := srcM 1 ⟨#[]⟩ ⟨#[]⟩ ⟨#[]⟩ false 0 ⟨#[]⟩
def strictS : Src := srcM 6 ⟨#[]⟩ ⟨#[]⟩ ⟨#[]⟩ false 0 ⟨#[]⟩
theorem nones (N : Nat) : ∀ a ∈ List.replicate N noneS, a.k = 1 := fun a h => by rw [List.eq_of_mem_replicate h]; rfl
theorem nones_far (N : Nat) : ∀ a ∈ List.replicate N noneS, a.h.length ≤ 100000 ∧ a.pa.length ≤ 100000 := fun a h => by rw [List.eq_of_mem_replicate h]; exact ⟨by decide, by decide⟩

set_option maxRecDepth 100000 in
set_option maxHeartbeats 8000000 in
theorem nothing_low (rk : Int) (rt : ByteArray) (o : Bool) (s2 h2 : ByteArray) (p : Int) (pa2 q2 : ByteArray) (mv : Bool) (rn : ByteArray) (pr : Bool) (o3 : Bool) (s3 h3 : ByteArray) (p3 : Int) (pa3 q3 : ByteArray) (many : Int) (n1 : many < 0) (w : World) (hw : Low w) : Calls Tryz.prog 5 #[reqV rk rt o s2 h2 p pa2 q2 mv rn pr o3 s3 h3 p3 pa3 q3, .int .i64 many] w fun e w' => e = .returned (.bool true) ∧ Below w.heap.size w w' := by
  have AR := allows_hid
  have LG := refBig11_hid rk rt o s2 h2 p pa2 q2 mv rn pr o3 s3 h3 p3 pa3 q3
  unfold reqV at *
  go_enter Tryz.func5, Tryz.ntmps5
  go_wp2_with fail
  have xn := RX.made w rk rt o s2 h2 p pa2 q2 mv rn pr o3 s3 h3 p3 pa3 q3
  have gw1 := hw.made (.cells #[.int .i64 rk, .string rt, .bool o, .string s2, .string h2, .int .i64 p, .string pa2, .string q2, .bool mv, .string rn, .bool pr, .bool o3, .string s3, .string h3, .int .i64 p3, .string pa3, .string q3] 27)
  have Bw1 : Below w.heap.size w (w.alloc (.cells #[.int .i64 rk, .string rt, .bool o, .string s2, .string h2, .int .i64 p, .string pa2, .string q2, .bool mv, .string rn, .bool pr, .bool o3, .string s3, .string h3, .int .i64 p3, .string pa3, .string q3] 27)) := ((Below.refl w.heap.size w).alloc (Nat.le_refl _) (.cells #[.int .i64 rk, .string rt, .bool o, .string s2, .string h2, .int .i64 p, .string pa2, .string q2, .bool mv, .string rn, .bool pr, .bool o3, .string s3, .string h3, .int .i64 p3, .string pa3, .string q3] 27))
  generalize hR : w.heap.size = Ra at xn Bw1 ⊢
  have HR := Lib.hid hR
  clear hR
  generalize w.alloc (.cells #[.int .i64 rk, .string rt, .bool o, .string s2, .string h2, .int .i64 p, .string pa2, .string q2, .bool mv, .string rn, .bool pr, .bool o3, .string s3, .string h3, .int .i64 p3, .string pa3, .string q3] 27) = w1 at xn gw1 Bw1  ⊢
  have xRa_w1 := xn
  clear xn hw
  refine (LG.out _ ).mono ?_
  rintro e w2 ⟨b0, rfl, b_, hz⟩
  have gw2 := gw1.below b_
  have Bw2 := Bw1.trans (b_.mono (Nat.le_of_lt xRa_w1.lt))
  have xRa_w2 := xRa_w1.below b_
  clear b_ gw1 Bw1 xRa_w1
  generalize Value.agg #[.int .i64 rk, .string rt, .bool o, .string s2, .string h2, .int .i64 p, .string pa2, .string q2, .bool mv, .string rn, .bool pr, .bool o3, .string s3, .string h3, .int .i64 p3, .string pa3, .string q3] = rq
  have HZ := Lib.hid hz
  clear hz
  cases b0
  case true =>
    go_wp2
    go_ret
    exact ⟨rfl, by rw [HR.out]; exact Bw2⟩
  go_wp2
  go_ret
  exact ⟨rfl, by rw [HR.out]; exact Bw2⟩

set_option maxRecDepth 100000 in
set_option maxHeartbeats 8000000 in
theorem nothing_high (rk : Int) (rt : ByteArray) (o : Bool) (s2 h2 : ByteArray) (p : Int) (pa2 q2 : ByteArray) (mv : Bool) (rn : ByteArray) (pr : Bool) (o3 : Bool) (s3 h3 : ByteArray) (p3 : Int) (pa3 q3 : ByteArray) (many : Int) (n1 : ¬ many < 0) (n2 : (5 : Int) < many) (w : World) (hw : Low w) : Calls Tryz.prog 5 #[reqV rk rt o s2 h2 p pa2 q2 mv rn pr o3 s3 h3 p3 pa3 q3, .int .i64 many] w fun e w' => e = .returned (.bool true) ∧ Below w.heap.size w w' := by
  have AR := allows_hid
  have LG := refBig11_hid rk rt o s2 h2 p pa2 q2 mv rn pr o3 s3 h3 p3 pa3 q3
  unfold reqV at *
  go_enter Tryz.func5, Tryz.ntmps5
  go_wp2_with fail
  have xn := RX.made w rk rt o s2 h2 p pa2 q2 mv rn pr o3 s3 h3 p3 pa3 q3
  have gw1 := hw.made (.cells #[.int .i64 rk, .string rt, .bool o, .string s2, .string h2, .int .i64 p, .string pa2, .string q2, .bool mv, .string rn, .bool pr, .bool o3, .string s3, .string h3, .int .i64 p3, .string pa3, .string q3] 27)
  have Bw1 : Below w.heap.size w (w.alloc (.cells #[.int .i64 rk, .string rt, .bool o, .string s2, .string h2, .int .i64 p, .string pa2, .string q2, .bool mv, .string rn, .bool pr, .bool o3, .string s3, .string h3, .int .i64 p3, .string pa3, .string q3] 27)) := ((Below.refl w.heap.size w).alloc (Nat.le_refl _) (.cells #[.int .i64 rk, .string rt, .bool o, .string s2, .string h2, .int .i64 p, .string pa2, .string q2, .bool mv, .string rn, .bool pr, .bool o3, .string s3, .string h3, .int .i64 p3, .string pa3, .string q3] 27))
  generalize hR : w.heap.size = Ra at xn Bw1 ⊢
  have HR := Lib.hid hR
  clear hR
  generalize w.alloc (.cells #[.int .i64 rk, .string rt, .bool o, .string s2, .string h2, .int .i64 p, .string pa2, .string q2, .bool mv, .string rn, .bool pr, .bool o3, .string s3, .string h3, .int .i64 p3, .string pa3, .string q3] 27) = w1 at xn gw1 Bw1  ⊢
  have xRa_w1 := xn
  clear xn hw
  refine (LG.out _ ).mono ?_
  rintro e w2 ⟨b0, rfl, b_, hz⟩
  have gw2 := gw1.below b_
  have Bw2 := Bw1.trans (b_.mono (Nat.le_of_lt xRa_w1.lt))
  have xRa_w2 := xRa_w1.below b_
  clear b_ gw1 Bw1 xRa_w1
  generalize Value.agg #[.int .i64 rk, .string rt, .bool o, .string s2, .string h2, .int .i64 p, .string pa2, .string q2, .bool mv, .string rn, .bool pr, .bool o3, .string s3, .string h3, .int .i64 p3, .string pa3, .string q3] = rq
  have HZ := Lib.hid hz
  clear hz
  cases b0
  case true =>
    go_wp2
    go_ret
    exact ⟨rfl, by rw [HR.out]; exact Bw2⟩
  go_wp2
  go_ret
  exact ⟨rfl, by rw [HR.out]; exact Bw2⟩

set_option maxRecDepth 100000 in
set_option maxHeartbeats 8000000 in
theorem nothing_is (rk : Int) (rt : ByteArray) (o : Bool) (s2 h2 : ByteArray) (p : Int) (pa2 q2 : ByteArray) (mv : Bool) (rn : ByteArray) (pr : Bool) (o3 : Bool) (s3 h3 : ByteArray) (p3 : Int) (pa3 q3 : ByteArray) (N : Nat) (hN : N ≤ 5) (w : World) (hw : Low w) : Calls Tryz.prog 5 #[reqV rk rt o s2 h2 p pa2 q2 mv rn pr o3 s3 h3 p3 pa3 q3, .int .i64 (N : Int)] w fun e w' => e = .returned (.bool true) ∧ Below w.heap.size w w' := by
  have AR := allows_hid
  have LG := refBig11_hid rk rt o s2 h2 p pa2 q2 mv rn pr o3 s3 h3 p3 pa3 q3
  have n1 : ¬ (N : Int) < 0 := by omega
  have n2 : ¬ (5 : Int) < (N : Int) := by omega
  unfold reqV at *
  go_enter Tryz.func5, Tryz.ntmps5
  go_wp2_with fail
  have xn := RX.made w rk rt o s2 h2 p pa2 q2 mv rn pr o3 s3 h3 p3 pa3 q3
  have gw1 := hw.made (.cells #[.int .i64 rk, .string rt, .bool o, .string s2, .string h2, .int .i64 p, .string pa2, .string q2, .bool mv, .string rn, .bool pr, .bool o3, .string s3, .string h3, .int .i64 p3, .string pa3, .string q3] 27)
  have Bw1 : Below w.heap.size w (w.alloc (.cells #[.int .i64 rk, .string rt, .bool o, .string s2, .string h2, .int .i64 p, .string pa2, .string q2, .bool mv, .string rn, .bool pr, .bool o3, .string s3, .string h3, .int .i64 p3, .string pa3, .string q3] 27)) := ((Below.refl w.heap.size w).alloc (Nat.le_refl _) (.cells #[.int .i64 rk, .string rt, .bool o, .string s2, .string h2, .int .i64 p, .string pa2, .string q2, .bool mv, .string rn, .bool pr, .bool o3, .string s3, .string h3, .int .i64 p3, .string pa3, .string q3] 27))
  generalize hR : w.heap.size = Ra at xn Bw1 ⊢
  have HR := Lib.hid hR
  clear hR
  generalize w.alloc (.cells #[.int .i64 rk, .string rt, .bool o, .string s2, .string h2, .int .i64 p, .string pa2, .string q2, .bool mv, .string rn, .bool pr, .bool o3, .string s3, .string h3, .int .i64 p3, .string pa3, .string q3] 27) = w1 at xn gw1 Bw1  ⊢
  have xRa_w1 := xn
  clear xn hw
  refine (LG.out _ ).mono ?_
  rintro e w2 ⟨b0, rfl, b_, hz⟩
  have gw2 := gw1.below b_
  have Bw2 := Bw1.trans (b_.mono (Nat.le_of_lt xRa_w1.lt))
  have xRa_w2 := xRa_w1.below b_
  clear b_ gw1 Bw1 xRa_w1
  generalize Value.agg #[.int .i64 rk, .string rt, .bool o, .string s2, .string h2, .int .i64 p, .string pa2, .string q2, .bool mv, .string rn, .bool pr, .bool o3, .string s3, .string h3, .int .i64 p3, .string pa3, .string q3] = rq
  have HZ := Lib.hid hz
  clear hz
  cases b0
  case true =>
    go_wp2
    go_ret
    exact ⟨rfl, by rw [HR.out]; exact Bw2⟩
  obtain ⟨z1, z2, ⟨c1, c2, c3, c4⟩, ⟨e1, e2, e3, e4⟩⟩ := HZ.out rfl
  clear HZ LG n1 n2
  have dRa0 := xRa_w2.c0
  have dRa1 := xRa_w2.c1
  have dRa2 := xRa_w2.c2
  have dRa3 := xRa_w2.c3
  have dRa4 := xRa_w2.c4
  have dRa5 := xRa_w2.c5
  have dRa6 := xRa_w2.c6
  have dRa7 := xRa_w2.c7
  have dRa8 := xRa_w2.c8
  have dRa9 := xRa_w2.c9
  have dRa10 := xRa_w2.c10
  have dRa11 := xRa_w2.c11
  have dRa12 := xRa_w2.c12
  have dRa13 := xRa_w2.c13
  have dRa14 := xRa_w2.c14
  have dRa15 := xRa_w2.c15
  have dRa16 := xRa_w2.c16
  go_wp2
  clear dRa0 dRa1 dRa2 dRa3 dRa4 dRa5 dRa6 dRa7 dRa8 dRa9 dRa10 dRa11 dRa12 dRa13 dRa14 dRa15 dRa16
  have HW1 := Lib.hid gw2
  have HX1 := Lib.hid xRa_w2
  have HB1 := Lib.hid Bw2
  have HLT := Lib.hid (Nat.le_of_lt xRa_w2.lt)
  have HO := Lib.hid (World.ownsRow_nil w2 w2.heap.size 40 7)
  clear gw2 xRa_w2 Bw2
  go_loopw [5, 6] (fun u i wr => ∃ k : Nat, k ≤ N ∧ i = .int .i64 k ∧ wr.ownsRow w2.heap.size 40 7 u k (srcCs (List.replicate k noneS)) ∧ Below w2.heap.size w2 wr) (fun _ i _ => N - (intOf i).toNat)
  case atStart => exact ⟨0, Nat.zero_le _, rfl, HO.out, Below.refl _ _⟩
  case round =>
    obtain ⟨k, hk, rfl, hown, hb⟩ := hrel
    by_cases hlt : k < N
    · have HS : Hid (srcCs (List.replicate (k + 1) noneS) = srcCs (List.replicate k noneS) ++ srcCs [noneS]) := Lib.hid (by rw [List.replicate_succ']; unfold srcCs; rw [List.flatMap_append])
      have hb2 := hb.alloc hb.size (.cells #[.int .i64 1, .string ⟨#[]⟩, .string ⟨#[]⟩, .string ⟨#[]⟩, .bool false, .int .i64 0, .string ⟨#[]⟩] 40)
      have HIN : Hid (SrcsIn (wr.alloc (.cells #[.int .i64 1, .string ⟨#[]⟩, .string ⟨#[]⟩, .string ⟨#[]⟩, .bool false, .int .i64 0, .string ⟨#[]⟩] 40)) (.slice (some ⟨wr.heap.size, 0, none⟩) 1 1) [noneS]) := Lib.hid (SX.made wr 1 ⟨#[]⟩ ⟨#[]⟩ ⟨#[]⟩ false 0 ⟨#[]⟩).row
      have HOW := Lib.hid (hown.alloc (.cells #[.int .i64 1, .string ⟨#[]⟩, .string ⟨#[]⟩, .string ⟨#[]⟩, .bool false, .int .i64 0, .string ⟨#[]⟩] 40))
      have hsz := size_allocS wr (.cells #[.int .i64 1, .string ⟨#[]⟩, .string ⟨#[]⟩, .string ⟨#[]⟩, .bool false, .int .i64 0, .string ⟨#[]⟩] 40)
      go_wp2_with (at_builtin; refine wpList_append_src rfl _ _ rfl w2.heap.size _ k _ rfl HOW.out _ [noneS] rfl HIN.out (by rw [List.length_singleton]; omega) (by have := hb2.size; omega) ?_; intro v' w5 hown' hgrow5
                   have hb5 : Below w2.heap.size w2 w5 := Below.grown hb2 hgrow5 (by have := hb2.size; omega) (fun j hj => by have := (hown.lt _ hj).1; omega)
                   have X : AsideM (w5.ownsRow w2.heap.size 40 7 v' (k + 1) (srcCs (List.replicate k noneS) ++ srcCs [noneS]) ∧ Below w2.heap.size w2 w5) := ⟨hown', hb5⟩
                   clear hown' hgrow5)
      go_roundw
      case rel => exact ⟨k + 1, by omega, by go_num, by rw [HS.out]; exact X.out.1, X.out.2⟩
      case measure => simp [intOf]; omega
    obtain rfl : k = N := by omega
    have lS : SrcsIn wr u5 (List.replicate k noneS) := SrcsIn.of_row (by rw [List.length_replicate]; exact hown)
    have gS := HW1.out.below hb
    have xS := HX1.out.below hb
    have BS := HB1.out.trans (hb.mono HLT.out)
    clear hown hb HW1 HX1 HB1 HO HLT
    have xRa_wr := xS
    clear xS
    have dRa0 := xRa_wr.c0
    have dRa1 := xRa_wr.c1
    have dRa2 := xRa_wr.c2
    have dRa3 := xRa_wr.c3
    have dRa4 := xRa_wr.c4
    have dRa5 := xRa_wr.c5
    have dRa6 := xRa_wr.c6
    have dRa7 := xRa_wr.c7
    have dRa8 := xRa_wr.c8
    have dRa9 := xRa_wr.c9
    have dRa10 := xRa_wr.c10
    have dRa11 := xRa_wr.c11
    have dRa12 := xRa_wr.c12
    have dRa13 := xRa_wr.c13
    have dRa14 := xRa_wr.c14
    have dRa15 := xRa_wr.c15
    have dRa16 := xRa_wr.c16
    go_wp2
    clear dRa0 dRa1 dRa2 dRa3 dRa4 dRa5 dRa6 dRa7 dRa8 dRa9 dRa10 dRa11 dRa12 dRa13 dRa14 dRa15 dRa16
    have xn := SX.made wr 6 ⟨#[]⟩ ⟨#[]⟩ ⟨#[]⟩ false 0 ⟨#[]⟩
    have gw8 := gS.made (.cells #[.int .i64 6, .string ⟨#[]⟩, .string ⟨#[]⟩, .string ⟨#[]⟩, .bool false, .int .i64 0, .string ⟨#[]⟩] 40)
    have lw8 := lS.made (.cells #[.int .i64 6, .string ⟨#[]⟩, .string ⟨#[]⟩, .string ⟨#[]⟩, .bool false, .int .i64 0, .string ⟨#[]⟩] 40)
    have Bw8 := BS.trans (((Below.refl wr.heap.size wr).alloc (Nat.le_refl _) (.cells #[.int .i64 6, .string ⟨#[]⟩, .string ⟨#[]⟩, .string ⟨#[]⟩, .bool false, .int .i64 0, .string ⟨#[]⟩] 40)).mono (Nat.le_of_lt xRa_wr.lt))
    have xRa_w8 := xRa_wr.below ((Below.refl wr.heap.size wr).alloc (Nat.le_refl _) (.cells #[.int .i64 6, .string ⟨#[]⟩, .string ⟨#[]⟩, .string ⟨#[]⟩, .bool false, .int .i64 0, .string ⟨#[]⟩] 40))
    generalize wr.heap.size = Rc at xn ⊢
    generalize wr.alloc (.cells #[.int .i64 6, .string ⟨#[]⟩, .string ⟨#[]⟩, .string ⟨#[]⟩, .bool false, .int .i64 0, .string ⟨#[]⟩] 40) = w8 at xn gw8 lw8 Bw8 xRa_w8 ⊢
    have xRc_w8 := xn
    clear xn gS lS BS xRa_wr
    have kS : SrcsIn w8 (.slice (some ⟨Rc, 0, none⟩) 1 1) [strictS] := xRc_w8.row
    clear xRc_w8
    have hlN : (List.replicate k noneS).length ≤ 1000000 := by rw [List.length_replicate]; omega
    have CI := alwInline_hid (List.replicate k noneS) u5 hlN rk rn rt (by omega) false (none_inline _ (nones k) _ _ _)
    have CF := alwFetch_hid (List.replicate k noneS) u5 hlN (nones_far k) rk rt o s2 h2 p pa2 q2 mv rn pr o3 s3 h3 p3 pa3 q3 (by omega) (by omega) (by omega) (by omega) (by omega) (by omega) (by omega) (by omega) false (none_fetch _ (nones k) _ _ _ _ _)
    have CE := alwEval_hid (List.replicate k noneS) u5 hlN rk false (none_eval _ (nones k) _)
    have CS := alwFetch_hid [strictS] (.slice (some ⟨Rc, 0, none⟩) 1 1) (by simp) (fun a h => by rw [List.mem_singleton.1 h]; exact ⟨by decide, by decide⟩) rk rt o s2 h2 p pa2 q2 mv rn pr o3 s3 h3 p3 pa3 q3 (by omega) (by omega) (by omega) (by omega) (by omega) (by omega) (by omega) (by omega) (!pr) (strict_fetch _ rfl _ _ _ _ _)
    have gp : ((!pr) == (!pr)) = true := by rw [beq_iff_eq]
    unfold reqV at CF CS
    clear z1 z2 c1 c2 c3 c4 e1 e2 e3 e4 hlN hk hlt hN
    have dRa0 := xRa_w8.c0
    have dRa1 := xRa_w8.c1
    have dRa2 := xRa_w8.c2
    have dRa3 := xRa_w8.c3
    have dRa4 := xRa_w8.c4
    have dRa5 := xRa_w8.c5
    have dRa6 := xRa_w8.c6
    have dRa7 := xRa_w8.c7
    have dRa8 := xRa_w8.c8
    have dRa9 := xRa_w8.c9
    have dRa10 := xRa_w8.c10
    have dRa11 := xRa_w8.c11
    have dRa12 := xRa_w8.c12
    have dRa13 := xRa_w8.c13
    have dRa14 := xRa_w8.c14
    have dRa15 := xRa_w8.c15
    have dRa16 := xRa_w8.c16
    go_wp2
    clear dRa0 dRa1 dRa2 dRa3 dRa4 dRa5 dRa6 dRa7 dRa8 dRa9 dRa10 dRa11 dRa12 dRa13 dRa14 dRa15 dRa16
    obtain ⟨C, hC⟩ : ∃ C : World → Prop, ∀ w', C w' ↔ (RX w' Ra rk rt o s2 h2 p pa2 q2 mv rn pr o3 s3 h3 p3 pa3 q3 ∧ Below Ra w w' ∧ Low w' ∧ SrcsIn w' u5 (List.replicate k noneS) ∧ SrcsIn w' (.slice (some ⟨Rc, 0, none⟩) 1 1) [strictS]) := ⟨_, fun _ => Iff.rfl⟩
    have HC := Lib.hid hC
    clear hC
    have hC0 : C w8.drew := (HC.out _).2 ⟨xRa_w8, Bw8.drew, gw8.drew, lw8.drew, kS.drew⟩
    have HK : Hid (∀ w', C w' → ∀ w7, Below w'.heap.size w' w7 → C w7) := Lib.hid fun w' hc w7 b => by
      obtain ⟨xRa, K4, g7, l7, k7⟩ := (HC.out w').1 hc
      exact (HC.out _).2 ⟨xRa.below b, K4.trans (b.mono (Nat.le_of_lt xRa.lt)), g7.below b, l7.below b, k7.below b⟩
    clear xRa_w8 Bw8 gw8 lw8 kS
    refine region_class C (by kernel_rfl) (by kernel_rfl) hC0 ?_
    clear hC0
    repeat
      first
        | go_big_quiet_skip
        | (go_big_quiet_want; go_big_quiet_op; go_big_quiet_on)
        | (refine BigFrame.wpQuiet_want rfl (fun K hK => ?_)
           apply Exists.intro
           refine ⟨fun w' hc => ?_, hK _ ?_⟩
           · obtain ⟨xRa, K4, g7, l7, k7⟩ := (HC.out w').1 hc
             have dRa0 := xRa.c0
             have dRa1 := xRa.c1
             have dRa2 := xRa.c2
             have dRa3 := xRa.c3
             have dRa4 := xRa.c4
             have dRa5 := xRa.c5
             have dRa6 := xRa.c6
             have dRa7 := xRa.c7
             have dRa8 := xRa.c8
             have dRa9 := xRa.c9
             have dRa10 := xRa.c10
             have dRa11 := xRa.c11
             have dRa12 := xRa.c12
             have dRa13 := xRa.c13
             have dRa14 := xRa.c14
             have dRa15 := xRa.c15
             have dRa16 := xRa.c16
             unfold Oper.quietAt
             go_simp
             first
               | done
               | rfl
           clear hK K
           simp only [Act.put, List.setIfInBounds_toArray, List.set_cons_zero, List.set_cons_succ])
    (refine BigFrame.wpQuiet_want rfl (fun K hK => ?_)
     apply Exists.intro
     refine ⟨fun w' hc => ?_, hK _ ?_⟩
     · obtain ⟨xRa, K4, g7, l7, k7⟩ := (HC.out w').1 hc
       have dRa0 := xRa.c0
       have dRa1 := xRa.c1
       have dRa2 := xRa.c2
       have dRa3 := xRa.c3
       have dRa4 := xRa.c4
       have dRa5 := xRa.c5
       have dRa6 := xRa.c6
       have dRa7 := xRa.c7
       have dRa8 := xRa.c8
       have dRa9 := xRa.c9
       have dRa10 := xRa.c10
       have dRa11 := xRa.c11
       have dRa12 := xRa.c12
       have dRa13 := xRa.c13
       have dRa14 := xRa.c14
       have dRa15 := xRa.c15
       have dRa16 := xRa.c16
       unfold Oper.quietAt
       go_simp
       first
         | ((with_reducible refine (AR.out _ g7).mono ?_); rintro e w7 ⟨rfl, b7⟩; exact ⟨rfl, HK.out w' hc w7 b7⟩)
         | ((with_reducible refine (CI.out _ l7).mono ?_); rintro e w7 ⟨rfl, b7⟩; exact ⟨rfl, HK.out w' hc w7 b7⟩)
         | ((with_reducible refine (CF.out _ g7 l7).mono ?_); rintro e w7 ⟨rfl, b7⟩; exact ⟨rfl, HK.out w' hc w7 b7⟩)
         | ((with_reducible refine (CE.out _ l7).mono ?_); rintro e w7 ⟨rfl, b7⟩; exact ⟨rfl, HK.out w' hc w7 b7⟩)
         | ((with_reducible refine (CS.out _ g7 k7).mono ?_); rintro e w7 ⟨rfl, b7⟩; exact ⟨rfl, HK.out w' hc w7 b7⟩)
     clear hK K
     simp only [Act.put, List.setIfInBounds_toArray, List.set_cons_zero, List.set_cons_succ])
    as_aux_lemma =>
      repeat
        first
          | go_big_quiet_skip
          | (go_big_quiet_want; go_big_quiet_op; go_big_quiet_on)
          | (refine BigFrame.wpQuiet_want rfl (fun K hK => ?_)
             apply Exists.intro
             refine ⟨fun w' hc => ?_, hK _ ?_⟩
             · obtain ⟨xRa, K4, g7, l7, k7⟩ := (HC.out w').1 hc
               have dRa0 := xRa.c0
               have dRa1 := xRa.c1
               have dRa2 := xRa.c2
               have dRa3 := xRa.c3
               have dRa4 := xRa.c4
               have dRa5 := xRa.c5
               have dRa6 := xRa.c6
               have dRa7 := xRa.c7
               have dRa8 := xRa.c8
               have dRa9 := xRa.c9
               have dRa10 := xRa.c10
               have dRa11 := xRa.c11
               have dRa12 := xRa.c12
               have dRa13 := xRa.c13
               have dRa14 := xRa.c14
               have dRa15 := xRa.c15
               have dRa16 := xRa.c16
               unfold Oper.quietAt
               go_simp
               first
                 | done
                 | rfl
             clear hK K
             simp only [Act.put, List.setIfInBounds_toArray, List.set_cons_zero, List.set_cons_succ])
      (refine BigFrame.wpQuiet_want rfl (fun K hK => ?_)
       apply Exists.intro
       refine ⟨fun w' hc => ?_, hK _ ?_⟩
       · obtain ⟨xRa, K4, g7, l7, k7⟩ := (HC.out w').1 hc
         have dRa0 := xRa.c0
         have dRa1 := xRa.c1
         have dRa2 := xRa.c2
         have dRa3 := xRa.c3
         have dRa4 := xRa.c4
         have dRa5 := xRa.c5
         have dRa6 := xRa.c6
         have dRa7 := xRa.c7
         have dRa8 := xRa.c8
         have dRa9 := xRa.c9
         have dRa10 := xRa.c10
         have dRa11 := xRa.c11
         have dRa12 := xRa.c12
         have dRa13 := xRa.c13
         have dRa14 := xRa.c14
         have dRa15 := xRa.c15
         have dRa16 := xRa.c16
         unfold Oper.quietAt
         go_simp
         first
           | ((with_reducible refine (AR.out _ g7).mono ?_); rintro e w7 ⟨rfl, b7⟩; exact ⟨rfl, HK.out w' hc w7 b7⟩)
           | ((with_reducible refine (CI.out _ l7).mono ?_); rintro e w7 ⟨rfl, b7⟩; exact ⟨rfl, HK.out w' hc w7 b7⟩)
           | ((with_reducible refine (CF.out _ g7 l7).mono ?_); rintro e w7 ⟨rfl, b7⟩; exact ⟨rfl, HK.out w' hc w7 b7⟩)
           | ((with_reducible refine (CE.out _ l7).mono ?_); rintro e w7 ⟨rfl, b7⟩; exact ⟨rfl, HK.out w' hc w7 b7⟩)
           | ((with_reducible refine (CS.out _ g7 k7).mono ?_); rintro e w7 ⟨rfl, b7⟩; exact ⟨rfl, HK.out w' hc w7 b7⟩)
       clear hK K
       simp only [Act.put, List.setIfInBounds_toArray, List.set_cons_zero, List.set_cons_succ])
      as_aux_lemma =>
        repeat
          first
            | go_big_quiet_skip
            | (go_big_quiet_want; go_big_quiet_op; go_big_quiet_on)
            | (refine BigFrame.wpQuiet_want rfl (fun K hK => ?_)
               apply Exists.intro
               refine ⟨fun w' hc => ?_, hK _ ?_⟩
               · obtain ⟨xRa, K4, g7, l7, k7⟩ := (HC.out w').1 hc
                 have dRa0 := xRa.c0
                 have dRa1 := xRa.c1
                 have dRa2 := xRa.c2
                 have dRa3 := xRa.c3
                 have dRa4 := xRa.c4
                 have dRa5 := xRa.c5
                 have dRa6 := xRa.c6
                 have dRa7 := xRa.c7
                 have dRa8 := xRa.c8
                 have dRa9 := xRa.c9
                 have dRa10 := xRa.c10
                 have dRa11 := xRa.c11
                 have dRa12 := xRa.c12
                 have dRa13 := xRa.c13
                 have dRa14 := xRa.c14
                 have dRa15 := xRa.c15
                 have dRa16 := xRa.c16
                 unfold Oper.quietAt
                 go_simp
                 first
                   | done
                   | rfl
               clear hK K
               simp only [Act.put, List.setIfInBounds_toArray, List.set_cons_zero, List.set_cons_succ])
        (refine BigFrame.wpQuiet_want rfl (fun K hK => ?_)
         apply Exists.intro
         refine ⟨fun w' hc => ?_, hK _ ?_⟩
         · obtain ⟨xRa, K4, g7, l7, k7⟩ := (HC.out w').1 hc
           have dRa0 := xRa.c0
           have dRa1 := xRa.c1
           have dRa2 := xRa.c2
           have dRa3 := xRa.c3
           have dRa4 := xRa.c4
           have dRa5 := xRa.c5
           have dRa6 := xRa.c6
           have dRa7 := xRa.c7
           have dRa8 := xRa.c8
           have dRa9 := xRa.c9
           have dRa10 := xRa.c10
           have dRa11 := xRa.c11
           have dRa12 := xRa.c12
           have dRa13 := xRa.c13
           have dRa14 := xRa.c14
           have dRa15 := xRa.c15
           have dRa16 := xRa.c16
           unfold Oper.quietAt
           go_simp
           first
             | ((with_reducible refine (AR.out _ g7).mono ?_); rintro e w7 ⟨rfl, b7⟩; exact ⟨rfl, HK.out w' hc w7 b7⟩)
             | ((with_reducible refine (CI.out _ l7).mono ?_); rintro e w7 ⟨rfl, b7⟩; exact ⟨rfl, HK.out w' hc w7 b7⟩)
             | ((with_reducible refine (CF.out _ g7 l7).mono ?_); rintro e w7 ⟨rfl, b7⟩; exact ⟨rfl, HK.out w' hc w7 b7⟩)
             | ((with_reducible refine (CE.out _ l7).mono ?_); rintro e w7 ⟨rfl, b7⟩; exact ⟨rfl, HK.out w' hc w7 b7⟩)
             | ((with_reducible refine (CS.out _ g7 k7).mono ?_); rintro e w7 ⟨rfl, b7⟩; exact ⟨rfl, HK.out w' hc w7 b7⟩)
         clear hK K
         simp only [Act.put, List.setIfInBounds_toArray, List.set_cons_zero, List.set_cons_succ])
        as_aux_lemma =>
          repeat
            first
              | go_big_quiet_skip
              | (go_big_quiet_want; go_big_quiet_op; go_big_quiet_on)
              | (refine BigFrame.wpQuiet_want rfl (fun K hK => ?_)
                 apply Exists.intro
                 refine ⟨fun w' hc => ?_, hK _ ?_⟩
                 · obtain ⟨xRa, K4, g7, l7, k7⟩ := (HC.out w').1 hc
                   have dRa0 := xRa.c0
                   have dRa1 := xRa.c1
                   have dRa2 := xRa.c2
                   have dRa3 := xRa.c3
                   have dRa4 := xRa.c4
                   have dRa5 := xRa.c5
                   have dRa6 := xRa.c6
                   have dRa7 := xRa.c7
                   have dRa8 := xRa.c8
                   have dRa9 := xRa.c9
                   have dRa10 := xRa.c10
                   have dRa11 := xRa.c11
                   have dRa12 := xRa.c12
                   have dRa13 := xRa.c13
                   have dRa14 := xRa.c14
                   have dRa15 := xRa.c15
                   have dRa16 := xRa.c16
                   unfold Oper.quietAt
                   go_simp
                   first
                     | done
                     | rfl
                 clear hK K
                 simp only [Act.put, List.setIfInBounds_toArray, List.set_cons_zero, List.set_cons_succ])
          (refine BigFrame.wpQuiet_want rfl (fun K hK => ?_)
           apply Exists.intro
           refine ⟨fun w' hc => ?_, hK _ ?_⟩
           · obtain ⟨xRa, K4, g7, l7, k7⟩ := (HC.out w').1 hc
             have dRa0 := xRa.c0
             have dRa1 := xRa.c1
             have dRa2 := xRa.c2
             have dRa3 := xRa.c3
             have dRa4 := xRa.c4
             have dRa5 := xRa.c5
             have dRa6 := xRa.c6
             have dRa7 := xRa.c7
             have dRa8 := xRa.c8
             have dRa9 := xRa.c9
             have dRa10 := xRa.c10
             have dRa11 := xRa.c11
             have dRa12 := xRa.c12
             have dRa13 := xRa.c13
             have dRa14 := xRa.c14
             have dRa15 := xRa.c15
             have dRa16 := xRa.c16
             unfold Oper.quietAt
             go_simp
             first
               | ((with_reducible refine (AR.out _ g7).mono ?_); rintro e w7 ⟨rfl, b7⟩; exact ⟨rfl, HK.out w' hc w7 b7⟩)
               | ((with_reducible refine (CI.out _ l7).mono ?_); rintro e w7 ⟨rfl, b7⟩; exact ⟨rfl, HK.out w' hc w7 b7⟩)
               | ((with_reducible refine (CF.out _ g7 l7).mono ?_); rintro e w7 ⟨rfl, b7⟩; exact ⟨rfl, HK.out w' hc w7 b7⟩)
               | ((with_reducible refine (CE.out _ l7).mono ?_); rintro e w7 ⟨rfl, b7⟩; exact ⟨rfl, HK.out w' hc w7 b7⟩)
               | ((with_reducible refine (CS.out _ g7 k7).mono ?_); rintro e w7 ⟨rfl, b7⟩; exact ⟨rfl, HK.out w' hc w7 b7⟩)
           clear hK K
           simp only [Act.put, List.setIfInBounds_toArray, List.set_cons_zero, List.set_cons_succ])
          as_aux_lemma =>
            repeat
              first
                | go_big_quiet_skip
                | (go_big_quiet_want; go_big_quiet_op; go_big_quiet_on)
                | (refine BigFrame.wpQuiet_want rfl (fun K hK => ?_)
                   apply Exists.intro
                   refine ⟨fun w' hc => ?_, hK _ ?_⟩
                   · obtain ⟨xRa, K4, g7, l7, k7⟩ := (HC.out w').1 hc
                     have dRa0 := xRa.c0
                     have dRa1 := xRa.c1
                     have dRa2 := xRa.c2
                     have dRa3 := xRa.c3
                     have dRa4 := xRa.c4
                     have dRa5 := xRa.c5
                     have dRa6 := xRa.c6
                     have dRa7 := xRa.c7
                     have dRa8 := xRa.c8
                     have dRa9 := xRa.c9
                     have dRa10 := xRa.c10
                     have dRa11 := xRa.c11
                     have dRa12 := xRa.c12
                     have dRa13 := xRa.c13
                     have dRa14 := xRa.c14
                     have dRa15 := xRa.c15
                     have dRa16 := xRa.c16
                     unfold Oper.quietAt
                     go_simp
                     first
                       | done
                       | rfl
                   clear hK K
                   simp only [Act.put, List.setIfInBounds_toArray, List.set_cons_zero, List.set_cons_succ])
            (refine BigFrame.wpQuiet_want rfl (fun K hK => ?_)
             apply Exists.intro
             refine ⟨fun w' hc => ?_, hK _ ?_⟩
             · obtain ⟨xRa, K4, g7, l7, k7⟩ := (HC.out w').1 hc
               have dRa0 := xRa.c0
               have dRa1 := xRa.c1
               have dRa2 := xRa.c2
               have dRa3 := xRa.c3
               have dRa4 := xRa.c4
               have dRa5 := xRa.c5
               have dRa6 := xRa.c6
               have dRa7 := xRa.c7
               have dRa8 := xRa.c8
               have dRa9 := xRa.c9
               have dRa10 := xRa.c10
               have dRa11 := xRa.c11
               have dRa12 := xRa.c12
               have dRa13 := xRa.c13
               have dRa14 := xRa.c14
               have dRa15 := xRa.c15
               have dRa16 := xRa.c16
               unfold Oper.quietAt
               go_simp
               first
                 | ((with_reducible refine (AR.out _ g7).mono ?_); rintro e w7 ⟨rfl, b7⟩; exact ⟨rfl, HK.out w' hc w7 b7⟩)
                 | ((with_reducible refine (CI.out _ l7).mono ?_); rintro e w7 ⟨rfl, b7⟩; exact ⟨rfl, HK.out w' hc w7 b7⟩)
                 | ((with_reducible refine (CF.out _ g7 l7).mono ?_); rintro e w7 ⟨rfl, b7⟩; exact ⟨rfl, HK.out w' hc w7 b7⟩)
                 | ((with_reducible refine (CE.out _ l7).mono ?_); rintro e w7 ⟨rfl, b7⟩; exact ⟨rfl, HK.out w' hc w7 b7⟩)
                 | ((with_reducible refine (CS.out _ g7 k7).mono ?_); rintro e w7 ⟨rfl, b7⟩; exact ⟨rfl, HK.out w' hc w7 b7⟩)
             clear hK K
             simp only [Act.put, List.setIfInBounds_toArray, List.set_cons_zero, List.set_cons_succ])
            as_aux_lemma =>
              repeat
                first
                  | go_big_quiet_skip
                  | (go_big_quiet_want; go_big_quiet_op; go_big_quiet_on)
                  | (refine BigFrame.wpQuiet_want rfl (fun K hK => ?_)
                     apply Exists.intro
                     refine ⟨fun w' hc => ?_, hK _ ?_⟩
                     · obtain ⟨xRa, K4, g7, l7, k7⟩ := (HC.out w').1 hc
                       have dRa0 := xRa.c0
                       have dRa1 := xRa.c1
                       have dRa2 := xRa.c2
                       have dRa3 := xRa.c3
                       have dRa4 := xRa.c4
                       have dRa5 := xRa.c5
                       have dRa6 := xRa.c6
                       have dRa7 := xRa.c7
                       have dRa8 := xRa.c8
                       have dRa9 := xRa.c9
                       have dRa10 := xRa.c10
                       have dRa11 := xRa.c11
                       have dRa12 := xRa.c12
                       have dRa13 := xRa.c13
                       have dRa14 := xRa.c14
                       have dRa15 := xRa.c15
                       have dRa16 := xRa.c16
                       unfold Oper.quietAt
                       go_simp
                       first
                         | done
                         | rfl
                         | ((with_reducible refine (AR.out _ g7).mono ?_); rintro e w7 ⟨rfl, b7⟩; exact ⟨rfl, HK.out w' hc w7 b7⟩)
                         | ((with_reducible refine (CI.out _ l7).mono ?_); rintro e w7 ⟨rfl, b7⟩; exact ⟨rfl, HK.out w' hc w7 b7⟩)
                         | ((with_reducible refine (CF.out _ g7 l7).mono ?_); rintro e w7 ⟨rfl, b7⟩; exact ⟨rfl, HK.out w' hc w7 b7⟩)
                         | ((with_reducible refine (CE.out _ l7).mono ?_); rintro e w7 ⟨rfl, b7⟩; exact ⟨rfl, HK.out w' hc w7 b7⟩)
                         | ((with_reducible refine (CS.out _ g7 k7).mono ?_); rintro e w7 ⟨rfl, b7⟩; exact ⟨rfl, HK.out w' hc w7 b7⟩)
                     clear hK K
                     simp only [Act.put, List.setIfInBounds_toArray, List.set_cons_zero, List.set_cons_succ])
              refine wpQuiet_nil ?_
              intro w9 hc
              obtain ⟨xRa_w9, Bw9, gw9, lw9, kw9⟩ := (HC.out w9).1 hc
              clear hc HC HK
              go_wp2
              go_ret
              exact ⟨rfl, by rw [HR.out]; exact Bw9⟩
theorem allowNothing_law (rk : Int) (rt : ByteArray) (o : Bool) (s2 h2 : ByteArray) (p : Int) (pa2 q2 : ByteArray) (mv : Bool) (rn : ByteArray) (pr : Bool) (o3 : Bool) (s3 h3 : ByteArray) (p3 : Int) (pa3 q3 : ByteArray) (many : Int) (w : World) (hw : Low w) : Calls Tryz.prog 5 #[reqV rk rt o s2 h2 p pa2 q2 mv rn pr o3 s3 h3 p3 pa3 q3, .int .i64 many] w fun e w' => e = .returned (.bool true) ∧ Below w.heap.size w w' := by
  by_cases n1 : many < 0
  · exact nothing_low rk rt o s2 h2 p pa2 q2 mv rn pr o3 s3 h3 p3 pa3 q3 many n1 w hw
  by_cases n2 : (5 : Int) < many
  · exact nothing_high rk rt o s2 h2 p pa2 q2 mv rn pr o3 s3 h3 p3 pa3 q3 many n1 n2 w hw
  obtain ⟨N, rfl⟩ : ∃ N : Nat, many = N := ⟨many.toNat, by omega⟩
  exact nothing_is rk rt o s2 h2 p pa2 q2 mv rn pr o3 s3 h3 p3 pa3 q3 N (by omega) w hw

end Go.Proofs.YtaldjkbnngeahaaGreatDoor
