/- What a list of sources lets be: the document's; the law's own question. -/
import Derived.Test.YtaldjkbnngeahaaGreatDoorAlwZ
import Derived.Test.YtaldjkbnngeahaaGreatDoorLstQ
import Derived.Test.YtaldjkbnngeahaaGreatDoorRefYB
import Derived.Test.YtaldjkbnngeahaaGreatDoorClass
namespace Go.Proofs.YtaldjkbnngeahaaGreatDoor
open Go.RowKit


set_option maxRecDepth 100000 in
set_option maxHeartbeats 4000000 in
theorem refHas_any (L : List Src) (v : Value) (hl : L.length ≤ 1000000) (k0 : Int) (b : Bool) (hb : hasL L k0 = b) (w : World) (hv : SrcsIn w v L) : Calls Tryz.prog 42 #[v, .int .i64 k0] w fun e w' => e = .returned (.bool b) ∧ Below w.heap.size w w' := by
  obtain ⟨a0, c0, rfl⟩ := hv.form
  have HV := Lib.hid hv
  have HR := Lib.hid hb
  clear hv hb
  go_enter Tryz.func42, Tryz.ntmps42
  go_wp2
  go_loop [5] (fun i => ∃ n : Nat, n ≤ L.length ∧ i = .int .i64 n ∧ Hid (∀ j, (h : j < L.length) → j < n → (fun a : Src => decide (a.k = k0)) L[j] = false)) (fun i => L.length - (intOf i).toNat)
  case atStart => exact ⟨0, Nat.zero_le _, rfl, Lib.hid fun j _ h => absurd h (Nat.not_lt_zero _)⟩
  case round =>
    obtain ⟨n, hn, rfl, HN⟩ := hrel
    by_cases hlt : n < L.length
    case neg =>
      obtain rfl : n = L.length := by omega
      have HE := Lib.hid ((none_yet (L := L) (f := fun a : Src => decide (a.k = k0)) HN.out).symm.trans HR.out)
      clear HN HV HR
      go_wp2
      go_ret
      exact ⟨ret_bool HE.out, Below.refl _ _⟩
    obtain ⟨B, off, rfl, hcell⟩ := HV.out.at hlt
    have HT := Lib.hid (is_there (f := fun a : Src => decide (a.k = k0)) hlt)
    have HM := Lib.hid (one_more (f := fun a : Src => decide (a.k = k0)) hlt HN.out)
    have c0 := hcell 0 (.int .i64 L[n].k) rfl
    rw [Nat.add_zero] at c0
    clear hcell HN
    generalize L[n] = a at c0 HT HM
    generalize a.k = K at c0 HT HM
    cases g : (K == k0)
    · have HM2 := Lib.hid (HM.out (decide_eq_false (beq_eq_false_iff_ne.1 g)))
      clear HM HT
      go_wp2
      go_round
      case rel => exact ⟨n + 1, by omega, by go_num, HM2⟩
      case measure => simp [intOf]; omega
    · have HE := Lib.hid ((HT.out (decide_eq_true (beq_iff_eq.1 g))).symm.trans HR.out)
      clear HM HT
      go_wp2
      go_ret
      exact ⟨ret_bool HE.out, Below.refl _ _⟩
theorem refHas_hid (L : List Src) (v : Value) (hl : L.length ≤ 1000000) (k0 : Int) (b : Bool) (hb : hasL L k0 = b) : Hid (∀ W, SrcsIn W v L → Calls Tryz.prog 42 #[v, .int .i64 k0] W fun e w' => e = .returned (.bool b) ∧ Below W.heap.size W w') :=
  Lib.hid fun W hv => refHas_any L v hl k0 b hb W hv

set_option maxRecDepth 100000 in
set_option maxHeartbeats 4000000 in
theorem refTxt11_any (L : List Src) (v : Value) (hl : L.length ≤ 1000000) (k0 : Int) (t0 : ByteArray) (b : Bool) (hb : textQ L k0 t0.data.toList = b) (w : World) (hv : SrcsIn w v L) : Calls Tryz.prog 37 #[v, .int .i64 k0, .string t0] w fun e w' => e = .returned (.bool b) ∧ Below w.heap.size w w' := by
  obtain ⟨a0, c0, rfl⟩ := hv.form
  have HR := Lib.hid hb
  have HV := Lib.hid hv
  clear hv hb
  go_enter Tryz.func37, Tryz.ntmps37
  go_wp2
  go_loop [7] (fun i => ∃ n : Nat, n ≤ L.length ∧ i = .int .i64 n ∧ Hid (∀ j, (h : j < L.length) → j < n → (fun a : Src => decide (a.k = k0) && decide (a.t = t0.data.toList)) L[j] = false)) (fun i => L.length - (intOf i).toNat)
  case atStart => exact ⟨0, Nat.zero_le _, rfl, Lib.hid fun j _ h => absurd h (Nat.not_lt_zero _)⟩
  case round =>
    obtain ⟨n, hn, rfl, HN⟩ := hrel
    by_cases hlt : n < L.length
    case neg =>
      obtain rfl : n = L.length := by omega
      have HE := Lib.hid ((none_yet (L := L) (f := (fun a : Src => decide (a.k = k0) && decide (a.t = t0.data.toList))) HN.out).symm.trans HR.out)
      clear HN
      go_wp2
      go_ret
      exact ⟨ret_bool HE.out, Below.refl _ _⟩
    obtain ⟨B, off, rfl, hcell⟩ := HV.out.at hlt
    have HT := Lib.hid (is_there (f := (fun a : Src => decide (a.k = k0) && decide (a.t = t0.data.toList))) hlt)
    have HM := Lib.hid (one_more (f := (fun a : Src => decide (a.k = k0) && decide (a.t = t0.data.toList))) hlt HN.out)
    obtain ⟨T, S, H, PA, hM⟩ := src_of L[n]
    generalize L[n].k = K at hM
    generalize L[n].w = wd2 at hM
    generalize L[n].p = sp2 at hM
    rw [hM] at hcell HT HM
    rw [srcC_M] at hcell
    have c0 := hcell 0 _ rfl
    have c1 := hcell 1 _ rfl
    rw [Nat.add_zero] at c0
    clear hcell hM HN
    obtain ⟨b0, g0⟩ : ∃ b, (K == k0) = b := ⟨_, rfl⟩
    obtain ⟨b1, g1⟩ : ∃ b, (T.toList == t0.toList) = b := ⟨_, rfl⟩
    have HG : Hid ((fun a : Src => decide (a.k = k0) && decide (a.t = t0.data.toList)) (srcM K T S H wd2 sp2 PA) = (b0 && b1)) := Lib.hid (by
      rw [← g0, ← g1, text_two]
      rfl)
    cases b0 <;> cases b1
    · have HM2 := Lib.hid (HM.out HG.out)
      clear HM HT HG
      go_wp2
      go_round
      case rel => exact ⟨n + 1, by omega, by go_num, HM2⟩
      case measure => simp [intOf]; omega
    · have HM2 := Lib.hid (HM.out HG.out)
      clear HM HT HG
      go_wp2
      go_round
      case rel => exact ⟨n + 1, by omega, by go_num, HM2⟩
      case measure => simp [intOf]; omega
    · have HM2 := Lib.hid (HM.out HG.out)
      clear HM HT HG
      go_wp2
      go_round
      case rel => exact ⟨n + 1, by omega, by go_num, HM2⟩
      case measure => simp [intOf]; omega
    · have HE := Lib.hid ((HT.out HG.out).symm.trans HR.out)
      clear HM HT HG
      go_wp2
      go_ret
      exact ⟨ret_bool HE.out, Below.refl _ _⟩
theorem refTxt11_hid (L : List Src) (v : Value) (hl : L.length ≤ 1000000) (k0 : Int) (t0 : ByteArray) (b : Bool) (hb : textQ L k0 t0.data.toList = b) : Hid (∀ W, SrcsIn W v L → Calls Tryz.prog 37 #[v, .int .i64 k0, .string t0] W fun e w' => e = .returned (.bool b) ∧ Below W.heap.size W w') :=
  Lib.hid fun W hv => refTxt11_any L v hl k0 t0 b hb W hv

set_option maxRecDepth 100000 in
set_option maxHeartbeats 4000000 in
theorem lawHas_any (L : List Src) (v : Value) (hl : L.length ≤ 1000000) (k0 : Int) (t0 : ByteArray) (s h : ByteArray) (wd : Bool) (sp : Int) (pa : ByteArray) (b : Bool) (hb : textQ L k0 t0.data.toList = b) (w : World) (hv : SrcsIn w v L) : Calls Tryz.prog 30 #[v, srcV k0 t0 s h wd sp pa] w fun e w' => e = .returned (.bool b) ∧ Below w.heap.size w w' := by
  obtain ⟨a0, c0, rfl⟩ := hv.form
  have HR := Lib.hid hb
  have al : Below w.heap.size w (w.alloc (.cells #[.int .i64 k0, .string t0, .string s, .string h, .bool wd, .int .i64 sp, .string pa] 40)) := (Below.refl _ _).alloc (Nat.le_refl _) _
  have HX := Lib.hid (SX.made w k0 t0 s h wd sp pa)
  have HV := Lib.hid (hv.below al)
  have HAL := Lib.hid al
  clear hv hb al
  unfold srcV
  go_enter Tryz.func30, Tryz.ntmps30
  go_wp2
  generalize hR2 : w.heap.size = Ra at HX HAL ⊢
  have HR2 := Lib.hid hR2
  clear hR2
  generalize w.alloc (.cells #[.int .i64 k0, .string t0, .string s, .string h, .bool wd, .int .i64 sp, .string pa] 40) = w1 at HX HV HAL ⊢
  go_loopw [5] (fun i wr => ∃ n : Nat, n ≤ L.length ∧ i = .int .i64 n ∧ Below w1.heap.size w1 wr ∧ Hid (∀ j, (h : j < L.length) → j < n → (fun a : Src => decide (a.k = k0) && decide (a.t = t0.data.toList)) L[j] = false)) (fun i _ => L.length - (intOf i).toNat)
  case atStart => exact ⟨0, Nat.zero_le _, rfl, Below.refl _ _, Lib.hid fun j _ h => absurd h (Nat.not_lt_zero _)⟩
  case round =>
    obtain ⟨n, hn, rfl, hb, HN⟩ := hrel
    by_cases hlt : n < L.length
    case neg =>
      obtain rfl : n = L.length := by omega
      have HE := Lib.hid ((none_yet (L := L) (f := (fun a : Src => decide (a.k = k0) && decide (a.t = t0.data.toList))) HN.out).symm.trans HR.out)
      have HB : Hid (Below w.heap.size w wr) := Lib.hid (by rw [HR2.out]; exact HAL.out.trans (hb.mono (Nat.le_of_lt HX.out.lt)))
      clear HN
      go_wp2
      go_ret
      exact ⟨ret_bool HE.out, HB.out⟩
    obtain ⟨B, off, rfl, hcell⟩ := (HV.out.below hb).at hlt
    have HT := Lib.hid (is_there (f := (fun a : Src => decide (a.k = k0) && decide (a.t = t0.data.toList))) hlt)
    have HM := Lib.hid (one_more (f := (fun a : Src => decide (a.k = k0) && decide (a.t = t0.data.toList))) hlt HN.out)
    obtain ⟨T, S, H, PA, hM⟩ := src_of L[n]
    generalize L[n].k = K at hM
    generalize L[n].w = wd2 at hM
    generalize L[n].p = sp2 at hM
    rw [hM] at hcell HT HM
    rw [srcC_M] at hcell
    have c0 := hcell 0 _ rfl
    have c1 := hcell 1 _ rfl
    rw [Nat.add_zero] at c0
    clear hcell hM HN
    obtain ⟨b0, g0⟩ : ∃ b, (K == k0) = b := ⟨_, rfl⟩
    obtain ⟨b1, g1⟩ : ∃ b, (T.toList == t0.toList) = b := ⟨_, rfl⟩
    have HG : Hid ((fun a : Src => decide (a.k = k0) && decide (a.t = t0.data.toList)) (srcM K T S H wd2 sp2 PA) = (b0 && b1)) := Lib.hid (by
      rw [← g0, ← g1, text_two]
      rfl)
    have e0 := (HX.out.below hb).c0
    have e1 := (HX.out.below hb).c1
    cases b0 <;> cases b1
    · have HM2 := Lib.hid (HM.out HG.out)
      clear HM HT HG
      go_wp2
      go_quiet (fail)
      have hb2 := belowN hb nq
      clear e0 e1
      go_wp2
      go_roundw
      case rel => exact ⟨n + 1, by omega, by go_num, hb2, HM2⟩
      case measure => simp [intOf]; omega
    · have HM2 := Lib.hid (HM.out HG.out)
      clear HM HT HG
      go_wp2
      go_quiet (fail)
      have hb2 := belowN hb nq
      clear e0 e1
      go_wp2
      go_roundw
      case rel => exact ⟨n + 1, by omega, by go_num, hb2, HM2⟩
      case measure => simp [intOf]; omega
    · have HM2 := Lib.hid (HM.out HG.out)
      clear HM HT HG
      go_wp2
      go_quiet (fail)
      have hb2 := belowN hb nq
      clear e0 e1
      go_wp2
      go_roundw
      case rel => exact ⟨n + 1, by omega, by go_num, hb2, HM2⟩
      case measure => simp [intOf]; omega
    · have HE := Lib.hid ((HT.out HG.out).symm.trans HR.out)
      clear HM HT HG
      go_wp2
      go_quiet (fail)
      have HB : Hid (Below w.heap.size w (wr.drewN nq)) := Lib.hid (by rw [HR2.out]; exact HAL.out.trans ((belowN hb nq).mono (Nat.le_of_lt HX.out.lt)))
      clear e0 e1
      go_wp2
      go_ret
      exact ⟨ret_bool HE.out, HB.out⟩
theorem lawHas_hid (L : List Src) (v : Value) (hl : L.length ≤ 1000000) (k0 : Int) (t0 s h : ByteArray) (wd : Bool) (sp : Int) (pa : ByteArray) (b : Bool) (hb : textQ L k0 t0.data.toList = b) : Hid (∀ W, SrcsIn W v L → Calls Tryz.prog 30 #[v, srcV k0 t0 s h wd sp pa] W fun e w' => e = .returned (.bool b) ∧ Below W.heap.size W w') :=
  Lib.hid fun W hv => lawHas_any L v hl k0 t0 s h wd sp pa b hb W hv
theorem uuBlocks (w : World) (o : Bool) (s2 h2 : ByteArray) (p : Int) (pa2 q2 : ByteArray) (o3 : Bool) (s3 h3 : ByteArray) (p3 : Int) (pa3 q3 : ByteArray) :
    BX ((w.alloc (.cells #[.bool o, .string s2, .string h2, .int .i64 p, .string pa2, .string q2] 25)).alloc (.cells #[.bool o3, .string s3, .string h3, .int .i64 p3, .string pa3, .string q3] 25)) w.heap.size o s2 h2 p pa2 q2 ∧ BX ((w.alloc (.cells #[.bool o, .string s2, .string h2, .int .i64 p, .string pa2, .string q2] 25)).alloc (.cells #[.bool o3, .string s3, .string h3, .int .i64 p3, .string pa3, .string q3] 25)) (w.heap.size + 1) o3 s3 h3 p3 pa3 q3 ∧ Below w.heap.size w ((w.alloc (.cells #[.bool o, .string s2, .string h2, .int .i64 p, .string pa2, .string q2] 25)).alloc (.cells #[.bool o3, .string s3, .string h3, .int .i64 p3, .string pa3, .string q3] 25)) := by
  refine ⟨?_, ?_, ?_⟩
  · unfold BX
    rw [heap_new, heap_at] <;> simp
  · unfold BX
    rw [heap_at]
    simp
  · exact ((Below.refl w.heap.size w).alloc (Nat.le_refl _) _).alloc (by simp) _
/-- A source that lies in a row. -/
structure EX (w : World) (B o : Nat) (k : Int) (t s h : ByteArray) (wd : Bool) (sp : Int) (pa : ByteArray) : Prop where
  c0 : w.cell? ⟨B, o, none⟩ = some (.int .i64 k)
  c1 : w.cell? ⟨B, o + 1, none⟩ = some (.string t)
  c2 : w.cell? ⟨B, o + 2, none⟩ = some (.string s)
  c3 : w.cell? ⟨B, o + 3, none⟩ = some (.string h)
  c4 : w.cell? ⟨B, o + 4, none⟩ = some (.bool wd)
  c5 : w.cell? ⟨B, o + 5, none⟩ = some (.int .i64 sp)
  c6 : w.cell? ⟨B, o + 6, none⟩ = some (.string pa)
theorem EX.below {w w' : World} {B o : Nat} {k : Int} {t s h : ByteArray} {wd : Bool} {sp : Int} {pa : ByteArray} (x : EX w B o k t s h wd sp pa) (hb : Below w.heap.size w w') : EX w' B o k t s h wd sp pa :=
  ⟨by rw [hb.cell (lt_of_cell x.c0)]; exact x.c0, by rw [hb.cell (lt_of_cell x.c1)]; exact x.c1, by rw [hb.cell (lt_of_cell x.c2)]; exact x.c2, by rw [hb.cell (lt_of_cell x.c3)]; exact x.c3, by rw [hb.cell (lt_of_cell x.c4)]; exact x.c4, by rw [hb.cell (lt_of_cell x.c5)]; exact x.c5, by rw [hb.cell (lt_of_cell x.c6)]; exact x.c6⟩
theorem EX.drew {w : World} {B o : Nat} {k : Int} {t s h : ByteArray} {wd : Bool} {sp : Int} {pa : ByteArray} (x : EX w B o k t s h wd sp pa) : EX w.drew B o k t s h wd sp pa := x.below (Below.refl _ _).drew

set_option maxRecDepth 100000 in
set_option maxHeartbeats 4000000 in
theorem refUrls_any (o : Bool) (s2 h2 : ByteArray) (p : Int) (pa2 q2 : ByteArray) (o3 : Bool) (s3 h3 : ByteArray) (p3 : Int) (pa3 q3 : ByteArray) (m : Bool) (su1 : s2.size ≤ 100000) (su2 : h2.size ≤ 100000) (su3 : pa2.size ≤ 100000) (su4 : q2.size ≤ 100000) (sv1 : s3.size ≤ 100000) (sv2 : h3.size ≤ 100000) (sv3 : pa3.size ≤ 100000) (sv4 : q3.size ≤ 100000) (L : List Src) (v : Value) (hl : L.length ≤ 1000000) (hL : ∀ a ∈ L, a.h.length ≤ 100000 ∧ a.pa.length ≤ 100000) (b : Bool) (hb : urlsL L (uM o s2 h2 p pa2 q2) (uM o3 s3 h3 p3 pa3 q3) m = b) (w : World) (hw : Low w) (hv : SrcsIn w v L) : Calls Tryz.prog 13 #[v, uV o s2 h2 p pa2 q2, uV o3 s3 h3 p3 pa3 q3, .bool m] w fun e w' => e = .returned (.bool b) ∧ Below w.heap.size w w' := by
  obtain ⟨a0, c0, rfl⟩ := hv.form
  have HQ := Lib.hid hb
  clear hb
  have HL := Lib.hid hL
  clear hL
  unfold uV at *
  go_enter Tryz.func13, Tryz.ntmps13
  go_wp2
  obtain ⟨x1, x2, BB⟩ := uuBlocks w o s2 h2 p pa2 q2 o3 s3 h3 p3 pa3 q3
  have gB := ((hw.made (.cells #[.bool o, .string s2, .string h2, .int .i64 p, .string pa2, .string q2] 25)).made (.cells #[.bool o3, .string s3, .string h3, .int .i64 p3, .string pa3, .string q3] 25))
  have lB := ((hv.made (.cells #[.bool o, .string s2, .string h2, .int .i64 p, .string pa2, .string q2] 25)).made (.cells #[.bool o3, .string s3, .string h3, .int .i64 p3, .string pa3, .string q3] 25))
  clear hw hv
  generalize hR : w.heap.size = Ra at x1 x2 BB ⊢
  have HR := Lib.hid hR
  clear hR
  obtain ⟨Rb, hRb⟩ : ∃ Rb, Ra + 1 = Rb := ⟨_, rfl⟩
  rw [hRb] at x2
  try rw [hRb]
  clear hRb
  generalize (w.alloc (.cells #[.bool o, .string s2, .string h2, .int .i64 p, .string pa2, .string q2] 25)).alloc (.cells #[.bool o3, .string s3, .string h3, .int .i64 p3, .string pa3, .string q3] 25) = w1 at x1 x2 gB lB BB ⊢
  have xRa_w1 := x1
  have xRb_w1 := x2
  clear x1 x2
  go_loopw [9] (fun i wr => ∃ n : Nat, n ≤ L.length ∧ i = .int .i64 n ∧ (BX wr Ra o s2 h2 p pa2 q2 ∧ BX wr Rb o3 s3 h3 p3 pa3 q3 ∧ Below Ra w wr ∧ Low wr ∧ SrcsIn wr (.slice a0 L.length c0) L) ∧ Hid (∀ j, (h : j < L.length) → j < n → (fun a => urlL a (uM o s2 h2 p pa2 q2) (uM o3 s3 h3 p3 pa3 q3) m) L[j] = false)) (fun i _ => L.length - (intOf i).toNat)
  case atStart => exact ⟨0, Nat.zero_le _, rfl, ⟨xRa_w1, xRb_w1, BB, gB, lB⟩, Lib.hid fun j _ h => absurd h (Nat.not_lt_zero _)⟩
  case round =>
    obtain ⟨n, hn, rfl, ⟨xRa_wr, xRb_wr, Bwr, gwr, lwr⟩, HN⟩ := hrel
    clear xRa_w1 xRb_w1 BB gB lB
    by_cases hlt : n < L.length
    case neg =>
      obtain rfl : n = L.length := by omega
      have HE := Lib.hid ((none_yet (L := L) (f := (fun a => urlL a (uM o s2 h2 p pa2 q2) (uM o3 s3 h3 p3 pa3 q3) m)) HN.out).symm.trans HQ.out)
      clear HN xRa_wr xRb_wr gwr lwr
      go_wp2
      go_ret
      exact ⟨ret_bool HE.out, by rw [HR.out]; exact Bwr⟩
    obtain ⟨B, off, rfl, hcell⟩ := lwr.at hlt
    have HT := Lib.hid (is_there (f := (fun a => urlL a (uM o s2 h2 p pa2 q2) (uM o3 s3 h3 p3 pa3 q3) m)) hlt)
    have HM := Lib.hid (one_more (f := (fun a => urlL a (uM o s2 h2 p pa2 q2) (uM o3 s3 h3 p3 pa3 q3) m)) hlt HN.out)
    have HS := Lib.hid (HL.out _ (List.getElem_mem hlt))
    obtain ⟨T, S, H, PA, hM⟩ := src_of L[n]
    generalize L[n].k = K at hM
    generalize L[n].w = wd at hM
    generalize L[n].p = sp at hM
    rw [hM] at hcell HT HM HS
    rw [srcC_M] at hcell
    have ewr : EX wr B (off + n * 7) K T S H wd sp PA := ⟨hcell 0 _ rfl, hcell 1 _ rfl, hcell 2 _ rfl, hcell 3 _ rfl, hcell 4 _ rfl, hcell 5 _ rfl, hcell 6 _ rfl⟩
    clear hcell hM HN
    obtain ⟨b2, hb2⟩ : ∃ b, (fun a => urlL a (uM o s2 h2 p pa2 q2) (uM o3 s3 h3 p3 pa3 q3) m) (srcM K T S H wd sp PA) = b := ⟨_, rfl⟩
    have CR := refUrl_hid K T S H wd sp PA o s2 h2 p pa2 q2 o3 s3 h3 p3 pa3 q3 m (by have := HS.out.1; unfold srcM at this; simp only [lsize] at this; exact this) (by have := HS.out.2; unfold srcM at this; simp only [lsize] at this; exact this) su1 su2 su3 su4 sv1 sv2 sv3 sv4 b2 hb2
    unfold srcV uV at CR
    have HB := Lib.hid hb2
    clear hb2 HS
    have dRa0 := xRa_wr.c0
    have dRa1 := xRa_wr.c1
    have dRa2 := xRa_wr.c2
    have dRa3 := xRa_wr.c3
    have dRa4 := xRa_wr.c4
    have dRa5 := xRa_wr.c5
    have dRb0 := xRb_wr.c0
    have dRb1 := xRb_wr.c1
    have dRb2 := xRb_wr.c2
    have dRb3 := xRb_wr.c3
    have dRb4 := xRb_wr.c4
    have dRb5 := xRb_wr.c5
    have s0_ := ewr.c0
    have s1_ := ewr.c1
    have s2_ := ewr.c2
    have s3_ := ewr.c3
    have s4_ := ewr.c4
    have s5_ := ewr.c5
    have s6_ := ewr.c6
    go_wp2
    clear dRa0 dRa1 dRa2 dRa3 dRa4 dRa5 dRb0 dRb1 dRb2 dRb3 dRb4 dRb5
    clear s0_ s1_ s2_ s3_ s4_ s5_ s6_
    obtain ⟨C, hC⟩ : ∃ C : World → Prop, ∀ w', C w' ↔ (BX w' Ra o s2 h2 p pa2 q2 ∧ BX w' Rb o3 s3 h3 p3 pa3 q3 ∧ Below Ra w w' ∧ Low w' ∧ SrcsIn w' (.slice (some ⟨B, off, none⟩) L.length c0) L ∧ EX w' B (off + n * 7) K T S H wd sp PA) := ⟨_, fun _ => Iff.rfl⟩
    have HC := Lib.hid hC
    clear hC
    have hC0 : C wr.drew := (HC.out _).2 ⟨xRa_wr, xRb_wr, Bwr.drew, gwr.drew, lwr.drew, ewr.drew⟩
    have HK : Hid (∀ w', C w' → ∀ w7, Below w'.heap.size w' w7 → C w7) := Lib.hid fun w' hc w7 b => by
      obtain ⟨xRa, xRb, K4, g7, l7, e7⟩ := (HC.out w').1 hc
      exact (HC.out _).2 ⟨xRa.below b, xRb.below b, K4.trans (b.mono (Nat.le_of_lt xRa.lt)), g7.below b, l7.below b, e7.below b⟩
    clear xRa_wr xRb_wr Bwr gwr lwr ewr
    refine region_class C (by kernel_rfl) (by kernel_rfl) hC0 ?_
    clear hC0
    repeat
      first
        | go_big_quiet_skip
        | (go_big_quiet_want; go_big_quiet_op; go_big_quiet_on)
        | (refine BigFrame.wpQuiet_want rfl (fun K hK => ?_)
           apply Exists.intro
           refine ⟨fun w' hc => ?_, hK _ ?_⟩
           · obtain ⟨xRa, xRb, K4, g7, l7, e7⟩ := (HC.out w').1 hc
             have dRa0 := xRa.c0
             have dRa1 := xRa.c1
             have dRa2 := xRa.c2
             have dRa3 := xRa.c3
             have dRa4 := xRa.c4
             have dRa5 := xRa.c5
             have dRb0 := xRb.c0
             have dRb1 := xRb.c1
             have dRb2 := xRb.c2
             have dRb3 := xRb.c3
             have dRb4 := xRb.c4
             have dRb5 := xRb.c5
             have s0_ := e7.c0
             have s1_ := e7.c1
             have s2_ := e7.c2
             have s3_ := e7.c3
             have s4_ := e7.c4
             have s5_ := e7.c5
             have s6_ := e7.c6
             unfold Oper.quietAt
             go_simp
             first
               | done
               | rfl
               | ((with_reducible refine (CR.out _ g7).mono ?_); rintro e w7 ⟨rfl, b7⟩; exact ⟨rfl, HK.out w' hc w7 b7⟩)
           clear hK K
           simp only [Act.put, List.setIfInBounds_toArray, List.set_cons_zero, List.set_cons_succ])
    refine wpQuiet_nil ?_
    intro w2 hc
    obtain ⟨xRa_w2, xRb_w2, Bw2, gw2, lw2, ew2⟩ := (HC.out w2).1 hc
    clear hc HC HK
    cases b2
    · have HM2 := Lib.hid (HM.out HB.out)
      clear HM HT HB ew2
      go_wp2
      go_roundw
      case rel => exact ⟨n + 1, by omega, by go_num, ⟨xRa_w2, xRb_w2, Bw2, gw2, lw2⟩, HM2⟩
      case measure => simp [intOf]; omega
    · have HE := Lib.hid ((HT.out HB.out).symm.trans HQ.out)
      clear HM HT HB ew2
      go_wp2
      go_ret
      exact ⟨ret_bool HE.out, by rw [HR.out]; exact Bw2⟩
theorem refUrl11_hid (o : Bool) (s2 h2 : ByteArray) (p : Int) (pa2 q2 : ByteArray) (o3 : Bool) (s3 h3 : ByteArray) (p3 : Int) (pa3 q3 : ByteArray) (m : Bool) (su1 : s2.size ≤ 100000) (su2 : h2.size ≤ 100000) (su3 : pa2.size ≤ 100000) (su4 : q2.size ≤ 100000) (sv1 : s3.size ≤ 100000) (sv2 : h3.size ≤ 100000) (sv3 : pa3.size ≤ 100000) (sv4 : q3.size ≤ 100000) (L : List Src) (v : Value) (hl : L.length ≤ 1000000) (hL : ∀ a ∈ L, a.h.length ≤ 100000 ∧ a.pa.length ≤ 100000) (b : Bool) (hb : urlsL L (uM o s2 h2 p pa2 q2) (uM o3 s3 h3 p3 pa3 q3) m = b) : Hid (∀ W, Low W → SrcsIn W v L → Calls Tryz.prog 13 #[v, uV o s2 h2 p pa2 q2, uV o3 s3 h3 p3 pa3 q3, .bool m] W fun e w' => e = .returned (.bool b) ∧ Below W.heap.size W w') :=
  Lib.hid fun W hw hv => refUrls_any o s2 h2 p pa2 q2 o3 s3 h3 p3 pa3 q3 m su1 su2 su3 su4 sv1 sv2 sv3 sv4 L v hl hL b hb W hw hv

set_option maxRecDepth 100000 in
set_option maxHeartbeats 4000000 in
theorem refNonce_any (L : List Src) (v : Value) (hl : L.length ≤ 1000000) (n : ByteArray) (b : Bool) (hb : nonceL L n.data.toList = b) (w : World) (hv : SrcsIn w v L) : Calls Tryz.prog 15 #[v, .string n] w fun e w' => e = .returned (.bool b) ∧ Below w.heap.size w w' := by
  obtain ⟨b0, g0⟩ : ∃ b, n.toList.isEmpty = b := ⟨_, rfl⟩
  obtain ⟨b1, h1⟩ : ∃ b, textQ L 9 n.data.toList = b := ⟨_, rfl⟩
  have HE : Hid ((!b0 && b1) = b) := Lib.hid (by rw [← hb, ← g0, ← h1, text_none]; rfl)
  have CT := refTxt11_hid L v hl 9 n b1 h1
  clear hb h1
  cases b0
  · go_enter Tryz.func15, Tryz.ntmps15
    go_wp2_with fail
    refine (CT.out _ hv).mono ?_
    rintro e w1 ⟨rfl, b_⟩
    have lw1 := hv.below b_
    have Bw1 := b_
    clear b_ hv
    go_wp2
    go_ret
    exact ⟨ret_bool HE.out, Bw1⟩
  · go_enter Tryz.func15, Tryz.ntmps15
    go_wp2
    go_ret
    exact ⟨ret_bool HE.out, Below.refl _ _⟩
theorem refNonce_hid (L : List Src) (v : Value) (hl : L.length ≤ 1000000) (n : ByteArray) (b : Bool) (hb : nonceL L n.data.toList = b) : Hid (∀ W, SrcsIn W v L → Calls Tryz.prog 15 #[v, .string n] W fun e w' => e = .returned (.bool b) ∧ Below W.heap.size W w') :=
  Lib.hid fun W hv => refNonce_any L v hl n b hb W hv
theorem refOf1_hid (s M : ByteArray) (hs : s.size ≤ 100000) (hM : M.data.toList = markL s.data.toList) : Hid (∀ W, Calls Tryz.prog 40 #[.string s] W fun e w' => e = .returned (.string M) ∧ Below W.heap.size W w') :=
  Lib.hid fun W => by rw [text_is hM]; exact refOf_any s W (by omega)

set_option maxRecDepth 100000 in
set_option maxHeartbeats 4000000 in
theorem refHash_any (L : List Src) (v : Value) (hl : L.length ≤ 1000000) (s : ByteArray) (hs : s.size ≤ 100000) (b : Bool) (hb : hashL L s.data.toList = b) (w : World) (hv : SrcsIn w v L) : Calls Tryz.prog 18 #[v, .string s] w fun e w' => e = .returned (.bool b) ∧ Below w.heap.size w w' := by
  obtain ⟨M, hM⟩ : ∃ M : ByteArray, M.data.toList = markL s.data.toList := ⟨⟨(markL s.data.toList).toArray⟩, rfl⟩
  have CT := refTxt11_hid L v hl 10 M b (by rw [hM]; exact hb)
  have CO := refOf1_hid s M hs hM
  clear hb hM
  go_enter Tryz.func18, Tryz.ntmps18
  go_wp2_with fail
  refine (CO.out _ ).mono ?_
  rintro e w1 ⟨rfl, b_⟩
  have lw1 := hv.below b_
  have Bw1 := b_
  clear b_ hv
  go_wp2_with fail
  refine (CT.out _ lw1).mono ?_
  rintro e w2 ⟨rfl, b_⟩
  have lw2 := lw1.below b_
  have Bw2 := Bw1.trans (b_.mono Bw1.size)
  clear b_ lw1 Bw1
  go_wp2
  go_ret
  exact ⟨rfl, Bw2⟩
theorem refHash_hid (L : List Src) (v : Value) (hl : L.length ≤ 1000000) (s : ByteArray) (hs : s.size ≤ 100000) (b : Bool) (hb : hashL L s.data.toList = b) : Hid (∀ W, SrcsIn W v L → Calls Tryz.prog 18 #[v, .string s] W fun e w' => e = .returned (.bool b) ∧ Below W.heap.size W w') :=
  Lib.hid fun W hv => refHash_any L v hl s hs b hb W hv

set_option maxRecDepth 100000 in
set_option maxHeartbeats 4000000 in
theorem refLoose_any (L : List Src) (v : Value) (hl : L.length ≤ 1000000) (b : Bool) (hb : looseL L = b) (w : World) (hv : SrcsIn w v L) : Calls Tryz.prog 20 #[v] w fun e w' => e = .returned (.bool b) ∧ Below w.heap.size w w' := by
  obtain ⟨b3, h3⟩ : ∃ b, hasL L 3 = b := ⟨_, rfl⟩
  obtain ⟨b9, h9⟩ : ∃ b, hasL L 9 = b := ⟨_, rfl⟩
  obtain ⟨b10, h10⟩ : ∃ b, hasL L 10 = b := ⟨_, rfl⟩
  obtain ⟨b6, h6⟩ : ∃ b, hasL L 6 = b := ⟨_, rfl⟩
  have HE : Hid ((b3 && !b9 && !b10 && !b6) = b) := Lib.hid (by rw [← hb, ← h3, ← h9, ← h10, ← h6]; rfl)
  have C3 := refHas_hid L v hl 3 b3 h3
  have C9 := refHas_hid L v hl 9 b9 h9
  have C10 := refHas_hid L v hl 10 b10 h10
  have C6 := refHas_hid L v hl 6 b6 h6
  clear hb h3 h9 h10 h6
  cases b3
  · go_enter Tryz.func20, Tryz.ntmps20
    go_wp2_with fail
    refine (C3.out _ hv).mono ?_
    rintro e w1 ⟨rfl, b_⟩
    have lw1 := hv.below b_
    have Bw1 := b_
    clear b_ hv
    go_wp2
    go_ret
    exact ⟨ret_bool HE.out, Bw1⟩
  cases b9
  case true =>
    go_enter Tryz.func20, Tryz.ntmps20
    go_wp2_with fail
    refine (C3.out _ hv).mono ?_
    rintro e w1 ⟨rfl, b_⟩
    have lw1 := hv.below b_
    have Bw1 := b_
    clear b_ hv
    go_wp2_with fail
    refine (C9.out _ lw1).mono ?_
    rintro e w2 ⟨rfl, b_⟩
    have lw2 := lw1.below b_
    have Bw2 := Bw1.trans (b_.mono Bw1.size)
    clear b_ lw1 Bw1
    go_wp2
    go_ret
    exact ⟨ret_bool HE.out, Bw2⟩
  cases b10
  case true =>
    go_enter Tryz.func20, Tryz.ntmps20
    go_wp2_with fail
    refine (C3.out _ hv).mono ?_
    rintro e w1 ⟨rfl, b_⟩
    have lw1 := hv.below b_
    have Bw1 := b_
    clear b_ hv
    go_wp2_with fail
    refine (C9.out _ lw1).mono ?_
    rintro e w2 ⟨rfl, b_⟩
    have lw2 := lw1.below b_
    have Bw2 := Bw1.trans (b_.mono Bw1.size)
    clear b_ lw1 Bw1
    go_wp2_with fail
    refine (C10.out _ lw2).mono ?_
    rintro e w3 ⟨rfl, b_⟩
    have lw3 := lw2.below b_
    have Bw3 := Bw2.trans (b_.mono Bw2.size)
    clear b_ lw2 Bw2
    go_wp2
    go_ret
    exact ⟨ret_bool HE.out, Bw3⟩
  go_enter Tryz.func20, Tryz.ntmps20
  go_wp2_with fail
  refine (C3.out _ hv).mono ?_
  rintro e w1 ⟨rfl, b_⟩
  have lw1 := hv.below b_
  have Bw1 := b_
  clear b_ hv
  go_wp2_with fail
  refine (C9.out _ lw1).mono ?_
  rintro e w2 ⟨rfl, b_⟩
  have lw2 := lw1.below b_
  have Bw2 := Bw1.trans (b_.mono Bw1.size)
  clear b_ lw1 Bw1
  go_wp2_with fail
  refine (C10.out _ lw2).mono ?_
  rintro e w3 ⟨rfl, b_⟩
  have lw3 := lw2.below b_
  have Bw3 := Bw2.trans (b_.mono Bw2.size)
  clear b_ lw2 Bw2
  go_wp2_with fail
  refine (C6.out _ lw3).mono ?_
  rintro e w4 ⟨rfl, b_⟩
  have lw4 := lw3.below b_
  have Bw4 := Bw3.trans (b_.mono Bw3.size)
  clear b_ lw3 Bw3
  go_wp2
  go_ret
  exact ⟨ret_bool HE.out, Bw4⟩
theorem refLoose_hid (L : List Src) (v : Value) (hl : L.length ≤ 1000000) (b : Bool) (hb : looseL L = b) : Hid (∀ W, SrcsIn W v L → Calls Tryz.prog 20 #[v] W fun e w' => e = .returned (.bool b) ∧ Below W.heap.size W w') :=
  Lib.hid fun W hv => refLoose_any L v hl b hb W hv

set_option maxRecDepth 100000 in
set_option maxHeartbeats 4000000 in
theorem refInline_one (L : List Src) (v : Value) (n s : ByteArray) (lo no ha : Bool) (CL : Hid (∀ W, SrcsIn W v L → Calls Tryz.prog 20 #[v] W fun e w' => e = .returned (.bool lo) ∧ Below W.heap.size W w')) (CN : Hid (∀ W, SrcsIn W v L → Calls Tryz.prog 15 #[v, .string n] W fun e w' => e = .returned (.bool no) ∧ Below W.heap.size W w')) (CH : Hid (∀ W, SrcsIn W v L → Calls Tryz.prog 18 #[v, .string s] W fun e w' => e = .returned (.bool ha) ∧ Below W.heap.size W w')) (b : Bool) (he : (lo || (no || ha)) = b) (w : World) (hv : SrcsIn w v L) : Calls Tryz.prog 23 #[v, .int .i64 1, .string n, .string s] w fun e w' => e = .returned (.bool b) ∧ Below w.heap.size w w' := by
  have HE := Lib.hid he
  clear he
  cases lo
  · cases no
    · go_enter Tryz.func23, Tryz.ntmps23
      go_wp2_with fail
      refine (CL.out _ hv).mono ?_
      rintro e w1 ⟨rfl, b_⟩
      have lw1 := hv.below b_
      have Bw1 := b_
      clear b_ hv
      go_wp2_with fail
      refine (CN.out _ lw1).mono ?_
      rintro e w2 ⟨rfl, b_⟩
      have lw2 := lw1.below b_
      have Bw2 := Bw1.trans (b_.mono Bw1.size)
      clear b_ lw1 Bw1
      go_wp2_with fail
      refine (CH.out _ lw2).mono ?_
      rintro e w3 ⟨rfl, b_⟩
      have lw3 := lw2.below b_
      have Bw3 := Bw2.trans (b_.mono Bw2.size)
      clear b_ lw2 Bw2
      go_wp2
      go_ret
      exact ⟨ret_bool HE.out, Bw3⟩
    · go_enter Tryz.func23, Tryz.ntmps23
      go_wp2_with fail
      refine (CL.out _ hv).mono ?_
      rintro e w1 ⟨rfl, b_⟩
      have lw1 := hv.below b_
      have Bw1 := b_
      clear b_ hv
      go_wp2_with fail
      refine (CN.out _ lw1).mono ?_
      rintro e w2 ⟨rfl, b_⟩
      have lw2 := lw1.below b_
      have Bw2 := Bw1.trans (b_.mono Bw1.size)
      clear b_ lw1 Bw1
      go_wp2
      go_ret
      exact ⟨ret_bool HE.out, Bw2⟩
  · go_enter Tryz.func23, Tryz.ntmps23
    go_wp2_with fail
    refine (CL.out _ hv).mono ?_
    rintro e w1 ⟨rfl, b_⟩
    have lw1 := hv.below b_
    have Bw1 := b_
    clear b_ hv
    go_wp2
    go_ret
    exact ⟨ret_bool HE.out, Bw1⟩

set_option maxRecDepth 100000 in
set_option maxHeartbeats 4000000 in
theorem refInline_thr (L : List Src) (v : Value) (n s : ByteArray) (lo h7 ha : Bool) (CL : Hid (∀ W, SrcsIn W v L → Calls Tryz.prog 20 #[v] W fun e w' => e = .returned (.bool lo) ∧ Below W.heap.size W w')) (C7 : Hid (∀ W, SrcsIn W v L → Calls Tryz.prog 42 #[v, .int .i64 7] W fun e w' => e = .returned (.bool h7) ∧ Below W.heap.size W w')) (CH : Hid (∀ W, SrcsIn W v L → Calls Tryz.prog 18 #[v, .string s] W fun e w' => e = .returned (.bool ha) ∧ Below W.heap.size W w')) (b : Bool) (he : (lo || (h7 && ha)) = b) (w : World) (hv : SrcsIn w v L) : Calls Tryz.prog 23 #[v, .int .i64 3, .string n, .string s] w fun e w' => e = .returned (.bool b) ∧ Below w.heap.size w w' := by
  have HE := Lib.hid he
  clear he
  cases lo
  · cases h7
    · go_enter Tryz.func23, Tryz.ntmps23
      go_wp2_with fail
      refine (CL.out _ hv).mono ?_
      rintro e w1 ⟨rfl, b_⟩
      have lw1 := hv.below b_
      have Bw1 := b_
      clear b_ hv
      go_wp2_with fail
      refine (C7.out _ lw1).mono ?_
      rintro e w2 ⟨rfl, b_⟩
      have lw2 := lw1.below b_
      have Bw2 := Bw1.trans (b_.mono Bw1.size)
      clear b_ lw1 Bw1
      go_wp2
      go_ret
      exact ⟨ret_bool HE.out, Bw2⟩
    · go_enter Tryz.func23, Tryz.ntmps23
      go_wp2_with fail
      refine (CL.out _ hv).mono ?_
      rintro e w1 ⟨rfl, b_⟩
      have lw1 := hv.below b_
      have Bw1 := b_
      clear b_ hv
      go_wp2_with fail
      refine (C7.out _ lw1).mono ?_
      rintro e w2 ⟨rfl, b_⟩
      have lw2 := lw1.below b_
      have Bw2 := Bw1.trans (b_.mono Bw1.size)
      clear b_ lw1 Bw1
      go_wp2_with fail
      refine (CH.out _ lw2).mono ?_
      rintro e w3 ⟨rfl, b_⟩
      have lw3 := lw2.below b_
      have Bw3 := Bw2.trans (b_.mono Bw2.size)
      clear b_ lw2 Bw2
      go_wp2
      go_ret
      exact ⟨ret_bool HE.out, Bw3⟩
  · go_enter Tryz.func23, Tryz.ntmps23
    go_wp2_with fail
    refine (CL.out _ hv).mono ?_
    rintro e w1 ⟨rfl, b_⟩
    have lw1 := hv.below b_
    have Bw1 := b_
    clear b_ hv
    go_wp2
    go_ret
    exact ⟨ret_bool HE.out, Bw1⟩

set_option maxRecDepth 100000 in
set_option maxHeartbeats 4000000 in
theorem refInline_fou (L : List Src) (v : Value) (n s : ByteArray) (lo h7 ha : Bool) (CL : Hid (∀ W, SrcsIn W v L → Calls Tryz.prog 20 #[v] W fun e w' => e = .returned (.bool lo) ∧ Below W.heap.size W w')) (C7 : Hid (∀ W, SrcsIn W v L → Calls Tryz.prog 42 #[v, .int .i64 7] W fun e w' => e = .returned (.bool h7) ∧ Below W.heap.size W w')) (CH : Hid (∀ W, SrcsIn W v L → Calls Tryz.prog 18 #[v, .string s] W fun e w' => e = .returned (.bool ha) ∧ Below W.heap.size W w')) (b : Bool) (he : (lo || (h7 && ha)) = b) (w : World) (hv : SrcsIn w v L) : Calls Tryz.prog 23 #[v, .int .i64 4, .string n, .string s] w fun e w' => e = .returned (.bool b) ∧ Below w.heap.size w w' := by
  have HE := Lib.hid he
  clear he
  cases lo
  · cases h7
    · go_enter Tryz.func23, Tryz.ntmps23
      go_wp2_with fail
      refine (CL.out _ hv).mono ?_
      rintro e w1 ⟨rfl, b_⟩
      have lw1 := hv.below b_
      have Bw1 := b_
      clear b_ hv
      go_wp2_with fail
      refine (C7.out _ lw1).mono ?_
      rintro e w2 ⟨rfl, b_⟩
      have lw2 := lw1.below b_
      have Bw2 := Bw1.trans (b_.mono Bw1.size)
      clear b_ lw1 Bw1
      go_wp2
      go_ret
      exact ⟨ret_bool HE.out, Bw2⟩
    · go_enter Tryz.func23, Tryz.ntmps23
      go_wp2_with fail
      refine (CL.out _ hv).mono ?_
      rintro e w1 ⟨rfl, b_⟩
      have lw1 := hv.below b_
      have Bw1 := b_
      clear b_ hv
      go_wp2_with fail
      refine (C7.out _ lw1).mono ?_
      rintro e w2 ⟨rfl, b_⟩
      have lw2 := lw1.below b_
      have Bw2 := Bw1.trans (b_.mono Bw1.size)
      clear b_ lw1 Bw1
      go_wp2_with fail
      refine (CH.out _ lw2).mono ?_
      rintro e w3 ⟨rfl, b_⟩
      have lw3 := lw2.below b_
      have Bw3 := Bw2.trans (b_.mono Bw2.size)
      clear b_ lw2 Bw2
      go_wp2
      go_ret
      exact ⟨ret_bool HE.out, Bw3⟩
  · go_enter Tryz.func23, Tryz.ntmps23
    go_wp2_with fail
    refine (CL.out _ hv).mono ?_
    rintro e w1 ⟨rfl, b_⟩
    have lw1 := hv.below b_
    have Bw1 := b_
    clear b_ hv
    go_wp2
    go_ret
    exact ⟨ret_bool HE.out, Bw1⟩

set_option maxRecDepth 100000 in
set_option maxHeartbeats 4000000 in
theorem refInline_no (k : Int) (n1 : (k == 1) = false) (n3 : (k == 3) = false) (n4 : (k == 4) = false) (v : Value) (n s : ByteArray) (w : World) : Calls Tryz.prog 23 #[v, .int .i64 k, .string n, .string s] w fun e w' => e = .returned (.bool false) ∧ Below w.heap.size w w' := by
  go_enter Tryz.func23, Tryz.ntmps23
  go_wp2
  go_ret
  exact ⟨rfl, Below.refl _ _⟩

theorem refInline_any (L : List Src) (v : Value) (hl : L.length ≤ 1000000) (k : Int) (n s : ByteArray) (hs : s.size ≤ 100000) (b : Bool) (hb : inlineL L k n.data.toList s.data.toList = b) (w : World) (hv : SrcsIn w v L) : Calls Tryz.prog 23 #[v, .int .i64 k, .string n, .string s] w fun e w' => e = .returned (.bool b) ∧ Below w.heap.size w w' := by
  have CL := refLoose_hid L v hl _ rfl
  have CN := refNonce_hid L v hl n _ rfl
  have CH := refHash_hid L v hl s hs _ rfl
  by_cases e1 : k = 1
  · subst e1
    exact refInline_one L v n s _ _ _ CL CN CH b (by rw [← hb]; unfold inlineL; rw [if_pos rfl]; simp only [Bool.or_assoc]) w hv
  by_cases e3 : k = 3
  · subst e3
    exact refInline_thr L v n s _ _ _ CL (refHas_hid L v hl 7 _ rfl) CH b (by rw [← hb]; unfold inlineL; rw [if_neg (by decide), if_pos (by decide)]) w hv
  by_cases e4 : k = 4
  · subst e4
    exact refInline_fou L v n s _ _ _ CL (refHas_hid L v hl 7 _ rfl) CH b (by rw [← hb]; unfold inlineL; rw [if_neg (by decide), if_pos (by decide)]) w hv
  rw [show b = false by rw [← hb]; unfold inlineL; rw [if_neg e1, if_neg (by rintro (h | h); exact e3 h; exact e4 h)]]
  exact refInline_no k (beq_eq_false_iff_ne.2 e1) (beq_eq_false_iff_ne.2 e3) (beq_eq_false_iff_ne.2 e4) v n s w
theorem refInline_hid (L : List Src) (v : Value) (hl : L.length ≤ 1000000) (k : Int) (n s : ByteArray) (hs : s.size ≤ 100000) (b : Bool) (hb : inlineL L k n.data.toList s.data.toList = b) : Hid (∀ W, SrcsIn W v L → Calls Tryz.prog 23 #[v, .int .i64 k, .string n, .string s] W fun e w' => e = .returned (.bool b) ∧ Below W.heap.size W w') :=
  Lib.hid fun W hv => refInline_any L v hl k n s hs b hb W hv

set_option maxRecDepth 100000 in
set_option maxHeartbeats 4000000 in
theorem refFetch_sn (L : List Src) (v : Value) (rk : Int) (rt : ByteArray) (o : Bool) (s2 h2 : ByteArray) (p : Int) (pa2 q2 : ByteArray) (mv : Bool) (rn : ByteArray) (pr : Bool) (o3 : Bool) (s3 h3 : ByteArray) (p3 : Int) (pa3 q3 : ByteArray) (CN : Hid (∀ W, SrcsIn W v L → Calls Tryz.prog 15 #[v, .string rn] W fun e w' => e = .returned (.bool true) ∧ Below W.heap.size W w')) (C6 : Hid (∀ W, SrcsIn W v L → Calls Tryz.prog 42 #[v, .int .i64 6] W fun e w' => e = .returned (.bool true) ∧ Below W.heap.size W w')) (b : Bool) (he : true = b) (w : World) (hw : Low w) (hv : SrcsIn w v L) : Calls Tryz.prog 25 #[v, reqV rk rt o s2 h2 p pa2 q2 mv rn pr o3 s3 h3 p3 pa3 q3] w fun e w' => e = .returned (.bool b) ∧ Below w.heap.size w w' := by
  have HE := Lib.hid he
  clear he
  unfold uV reqV at *
  go_enter Tryz.func25, Tryz.ntmps25
  go_wp2_with fail
  have xn := RX.made w rk rt o s2 h2 p pa2 q2 mv rn pr o3 s3 h3 p3 pa3 q3
  have gw1 := hw.made (.cells #[.int .i64 rk, .string rt, .bool o, .string s2, .string h2, .int .i64 p, .string pa2, .string q2, .bool mv, .string rn, .bool pr, .bool o3, .string s3, .string h3, .int .i64 p3, .string pa3, .string q3] 27)
  have lw1 := hv.made (.cells #[.int .i64 rk, .string rt, .bool o, .string s2, .string h2, .int .i64 p, .string pa2, .string q2, .bool mv, .string rn, .bool pr, .bool o3, .string s3, .string h3, .int .i64 p3, .string pa3, .string q3] 27)
  have Bw1 : Below w.heap.size w (w.alloc (.cells #[.int .i64 rk, .string rt, .bool o, .string s2, .string h2, .int .i64 p, .string pa2, .string q2, .bool mv, .string rn, .bool pr, .bool o3, .string s3, .string h3, .int .i64 p3, .string pa3, .string q3] 27)) := ((Below.refl w.heap.size w).alloc (Nat.le_refl _) (.cells #[.int .i64 rk, .string rt, .bool o, .string s2, .string h2, .int .i64 p, .string pa2, .string q2, .bool mv, .string rn, .bool pr, .bool o3, .string s3, .string h3, .int .i64 p3, .string pa3, .string q3] 27))
  generalize hR : w.heap.size = Ra at xn Bw1 ⊢
  have HR := Lib.hid hR
  clear hR
  generalize w.alloc (.cells #[.int .i64 rk, .string rt, .bool o, .string s2, .string h2, .int .i64 p, .string pa2, .string q2, .bool mv, .string rn, .bool pr, .bool o3, .string s3, .string h3, .int .i64 p3, .string pa3, .string q3] 27) = w1 at xn gw1 lw1 Bw1  ⊢
  have xRa_w1 := xn
  clear xn hw hv
  refine (C6.out _ lw1).mono ?_
  rintro e w2 ⟨rfl, b_⟩
  have gw2 := gw1.below b_
  have lw2 := lw1.below b_
  have Bw2 := Bw1.trans (b_.mono (Nat.le_of_lt xRa_w1.lt))
  have xRa_w2 := xRa_w1.below b_
  clear b_ gw1 lw1 Bw1 xRa_w1
  have dRa0 := xRa_w2.c0
  have dRa1 := xRa_w2.c1
  have dRa2 := xRa_w2.c2
  have dRa3 := xRa_w2.c3
  have dRa4 := xRa_w2.c4
  have dRa5 := xRa_w2.c5
  have dRa6 := xRa_w2.c6
  have dRa7 := xRa_w2.c7
  have dRa8 := xRa_w2.c8
  have dRa9 := xRa_w2.c9
  have dRa10 := xRa_w2.c10
  have dRa11 := xRa_w2.c11
  have dRa12 := xRa_w2.c12
  have dRa13 := xRa_w2.c13
  have dRa14 := xRa_w2.c14
  have dRa15 := xRa_w2.c15
  have dRa16 := xRa_w2.c16
  go_wp2_with fail
  clear dRa0 dRa1 dRa2 dRa3 dRa4 dRa5 dRa6 dRa7 dRa8 dRa9 dRa10 dRa11 dRa12 dRa13 dRa14 dRa15 dRa16
  refine (CN.out _ lw2).mono ?_
  rintro e w3 ⟨rfl, b_⟩
  have gw3 := gw2.below b_
  have lw3 := lw2.below b_
  have Bw3 := Bw2.trans (b_.mono (Nat.le_of_lt xRa_w2.lt))
  have xRa_w3 := xRa_w2.below b_
  clear b_ gw2 lw2 Bw2 xRa_w2
  have dRa0 := xRa_w3.c0
  have dRa1 := xRa_w3.c1
  have dRa2 := xRa_w3.c2
  have dRa3 := xRa_w3.c3
  have dRa4 := xRa_w3.c4
  have dRa5 := xRa_w3.c5
  have dRa6 := xRa_w3.c6
  have dRa7 := xRa_w3.c7
  have dRa8 := xRa_w3.c8
  have dRa9 := xRa_w3.c9
  have dRa10 := xRa_w3.c10
  have dRa11 := xRa_w3.c11
  have dRa12 := xRa_w3.c12
  have dRa13 := xRa_w3.c13
  have dRa14 := xRa_w3.c14
  have dRa15 := xRa_w3.c15
  have dRa16 := xRa_w3.c16
  go_wp2
  go_ret
  exact ⟨ret_bool HE.out, by rw [HR.out]; exact Bw3⟩

set_option maxRecDepth 100000 in
set_option maxHeartbeats 4000000 in
theorem refFetch_s (L : List Src) (v : Value) (rk : Int) (rt : ByteArray) (o : Bool) (s2 h2 : ByteArray) (p : Int) (pa2 q2 : ByteArray) (mv : Bool) (rn : ByteArray) (pr : Bool) (o3 : Bool) (s3 h3 : ByteArray) (p3 : Int) (pa3 q3 : ByteArray) (CN : Hid (∀ W, SrcsIn W v L → Calls Tryz.prog 15 #[v, .string rn] W fun e w' => e = .returned (.bool false) ∧ Below W.heap.size W w')) (C6 : Hid (∀ W, SrcsIn W v L → Calls Tryz.prog 42 #[v, .int .i64 6] W fun e w' => e = .returned (.bool true) ∧ Below W.heap.size W w')) (b : Bool) (he : (!pr) = b) (w : World) (hw : Low w) (hv : SrcsIn w v L) : Calls Tryz.prog 25 #[v, reqV rk rt o s2 h2 p pa2 q2 mv rn pr o3 s3 h3 p3 pa3 q3] w fun e w' => e = .returned (.bool b) ∧ Below w.heap.size w w' := by
  have HE := Lib.hid he
  clear he
  unfold uV reqV at *
  go_enter Tryz.func25, Tryz.ntmps25
  go_wp2_with fail
  have xn := RX.made w rk rt o s2 h2 p pa2 q2 mv rn pr o3 s3 h3 p3 pa3 q3
  have gw1 := hw.made (.cells #[.int .i64 rk, .string rt, .bool o, .string s2, .string h2, .int .i64 p, .string pa2, .string q2, .bool mv, .string rn, .bool pr, .bool o3, .string s3, .string h3, .int .i64 p3, .string pa3, .string q3] 27)
  have lw1 := hv.made (.cells #[.int .i64 rk, .string rt, .bool o, .string s2, .string h2, .int .i64 p, .string pa2, .string q2, .bool mv, .string rn, .bool pr, .bool o3, .string s3, .string h3, .int .i64 p3, .string pa3, .string q3] 27)
  have Bw1 : Below w.heap.size w (w.alloc (.cells #[.int .i64 rk, .string rt, .bool o, .string s2, .string h2, .int .i64 p, .string pa2, .string q2, .bool mv, .string rn, .bool pr, .bool o3, .string s3, .string h3, .int .i64 p3, .string pa3, .string q3] 27)) := ((Below.refl w.heap.size w).alloc (Nat.le_refl _) (.cells #[.int .i64 rk, .string rt, .bool o, .string s2, .string h2, .int .i64 p, .string pa2, .string q2, .bool mv, .string rn, .bool pr, .bool o3, .string s3, .string h3, .int .i64 p3, .string pa3, .string q3] 27))
  generalize hR : w.heap.size = Ra at xn Bw1 ⊢
  have HR := Lib.hid hR
  clear hR
  generalize w.alloc (.cells #[.int .i64 rk, .string rt, .bool o, .string s2, .string h2, .int .i64 p, .string pa2, .string q2, .bool mv, .string rn, .bool pr, .bool o3, .string s3, .string h3, .int .i64 p3, .string pa3, .string q3] 27) = w1 at xn gw1 lw1 Bw1  ⊢
  have xRa_w1 := xn
  clear xn hw hv
  refine (C6.out _ lw1).mono ?_
  rintro e w2 ⟨rfl, b_⟩
  have gw2 := gw1.below b_
  have lw2 := lw1.below b_
  have Bw2 := Bw1.trans (b_.mono (Nat.le_of_lt xRa_w1.lt))
  have xRa_w2 := xRa_w1.below b_
  clear b_ gw1 lw1 Bw1 xRa_w1
  have dRa0 := xRa_w2.c0
  have dRa1 := xRa_w2.c1
  have dRa2 := xRa_w2.c2
  have dRa3 := xRa_w2.c3
  have dRa4 := xRa_w2.c4
  have dRa5 := xRa_w2.c5
  have dRa6 := xRa_w2.c6
  have dRa7 := xRa_w2.c7
  have dRa8 := xRa_w2.c8
  have dRa9 := xRa_w2.c9
  have dRa10 := xRa_w2.c10
  have dRa11 := xRa_w2.c11
  have dRa12 := xRa_w2.c12
  have dRa13 := xRa_w2.c13
  have dRa14 := xRa_w2.c14
  have dRa15 := xRa_w2.c15
  have dRa16 := xRa_w2.c16
  go_wp2_with fail
  clear dRa0 dRa1 dRa2 dRa3 dRa4 dRa5 dRa6 dRa7 dRa8 dRa9 dRa10 dRa11 dRa12 dRa13 dRa14 dRa15 dRa16
  refine (CN.out _ lw2).mono ?_
  rintro e w3 ⟨rfl, b_⟩
  have gw3 := gw2.below b_
  have lw3 := lw2.below b_
  have Bw3 := Bw2.trans (b_.mono (Nat.le_of_lt xRa_w2.lt))
  have xRa_w3 := xRa_w2.below b_
  clear b_ gw2 lw2 Bw2 xRa_w2
  have dRa0 := xRa_w3.c0
  have dRa1 := xRa_w3.c1
  have dRa2 := xRa_w3.c2
  have dRa3 := xRa_w3.c3
  have dRa4 := xRa_w3.c4
  have dRa5 := xRa_w3.c5
  have dRa6 := xRa_w3.c6
  have dRa7 := xRa_w3.c7
  have dRa8 := xRa_w3.c8
  have dRa9 := xRa_w3.c9
  have dRa10 := xRa_w3.c10
  have dRa11 := xRa_w3.c11
  have dRa12 := xRa_w3.c12
  have dRa13 := xRa_w3.c13
  have dRa14 := xRa_w3.c14
  have dRa15 := xRa_w3.c15
  have dRa16 := xRa_w3.c16
  go_wp2
  go_ret
  exact ⟨ret_bool HE.out, by rw [HR.out]; exact Bw3⟩

set_option maxRecDepth 100000 in
set_option maxHeartbeats 4000000 in
theorem refFetch_n (L : List Src) (v : Value) (rk : Int) (rt : ByteArray) (o : Bool) (s2 h2 : ByteArray) (p : Int) (pa2 q2 : ByteArray) (mv : Bool) (rn : ByteArray) (pr : Bool) (o3 : Bool) (s3 h3 : ByteArray) (p3 : Int) (pa3 q3 : ByteArray) (CN : Hid (∀ W, SrcsIn W v L → Calls Tryz.prog 15 #[v, .string rn] W fun e w' => e = .returned (.bool true) ∧ Below W.heap.size W w')) (C6 : Hid (∀ W, SrcsIn W v L → Calls Tryz.prog 42 #[v, .int .i64 6] W fun e w' => e = .returned (.bool false) ∧ Below W.heap.size W w')) (b : Bool) (he : true = b) (w : World) (hw : Low w) (hv : SrcsIn w v L) : Calls Tryz.prog 25 #[v, reqV rk rt o s2 h2 p pa2 q2 mv rn pr o3 s3 h3 p3 pa3 q3] w fun e w' => e = .returned (.bool b) ∧ Below w.heap.size w w' := by
  have HE := Lib.hid he
  clear he
  unfold uV reqV at *
  go_enter Tryz.func25, Tryz.ntmps25
  go_wp2_with fail
  have xn := RX.made w rk rt o s2 h2 p pa2 q2 mv rn pr o3 s3 h3 p3 pa3 q3
  have gw1 := hw.made (.cells #[.int .i64 rk, .string rt, .bool o, .string s2, .string h2, .int .i64 p, .string pa2, .string q2, .bool mv, .string rn, .bool pr, .bool o3, .string s3, .string h3, .int .i64 p3, .string pa3, .string q3] 27)
  have lw1 := hv.made (.cells #[.int .i64 rk, .string rt, .bool o, .string s2, .string h2, .int .i64 p, .string pa2, .string q2, .bool mv, .string rn, .bool pr, .bool o3, .string s3, .string h3, .int .i64 p3, .string pa3, .string q3] 27)
  have Bw1 : Below w.heap.size w (w.alloc (.cells #[.int .i64 rk, .string rt, .bool o, .string s2, .string h2, .int .i64 p, .string pa2, .string q2, .bool mv, .string rn, .bool pr, .bool o3, .string s3, .string h3, .int .i64 p3, .string pa3, .string q3] 27)) := ((Below.refl w.heap.size w).alloc (Nat.le_refl _) (.cells #[.int .i64 rk, .string rt, .bool o, .string s2, .string h2, .int .i64 p, .string pa2, .string q2, .bool mv, .string rn, .bool pr, .bool o3, .string s3, .string h3, .int .i64 p3, .string pa3, .string q3] 27))
  generalize hR : w.heap.size = Ra at xn Bw1 ⊢
  have HR := Lib.hid hR
  clear hR
  generalize w.alloc (.cells #[.int .i64 rk, .string rt, .bool o, .string s2, .string h2, .int .i64 p, .string pa2, .string q2, .bool mv, .string rn, .bool pr, .bool o3, .string s3, .string h3, .int .i64 p3, .string pa3, .string q3] 27) = w1 at xn gw1 lw1 Bw1  ⊢
  have xRa_w1 := xn
  clear xn hw hv
  refine (C6.out _ lw1).mono ?_
  rintro e w2 ⟨rfl, b_⟩
  have gw2 := gw1.below b_
  have lw2 := lw1.below b_
  have Bw2 := Bw1.trans (b_.mono (Nat.le_of_lt xRa_w1.lt))
  have xRa_w2 := xRa_w1.below b_
  clear b_ gw1 lw1 Bw1 xRa_w1
  have dRa0 := xRa_w2.c0
  have dRa1 := xRa_w2.c1
  have dRa2 := xRa_w2.c2
  have dRa3 := xRa_w2.c3
  have dRa4 := xRa_w2.c4
  have dRa5 := xRa_w2.c5
  have dRa6 := xRa_w2.c6
  have dRa7 := xRa_w2.c7
  have dRa8 := xRa_w2.c8
  have dRa9 := xRa_w2.c9
  have dRa10 := xRa_w2.c10
  have dRa11 := xRa_w2.c11
  have dRa12 := xRa_w2.c12
  have dRa13 := xRa_w2.c13
  have dRa14 := xRa_w2.c14
  have dRa15 := xRa_w2.c15
  have dRa16 := xRa_w2.c16
  go_wp2_with fail
  clear dRa0 dRa1 dRa2 dRa3 dRa4 dRa5 dRa6 dRa7 dRa8 dRa9 dRa10 dRa11 dRa12 dRa13 dRa14 dRa15 dRa16
  refine (CN.out _ lw2).mono ?_
  rintro e w3 ⟨rfl, b_⟩
  have gw3 := gw2.below b_
  have lw3 := lw2.below b_
  have Bw3 := Bw2.trans (b_.mono (Nat.le_of_lt xRa_w2.lt))
  have xRa_w3 := xRa_w2.below b_
  clear b_ gw2 lw2 Bw2 xRa_w2
  have dRa0 := xRa_w3.c0
  have dRa1 := xRa_w3.c1
  have dRa2 := xRa_w3.c2
  have dRa3 := xRa_w3.c3
  have dRa4 := xRa_w3.c4
  have dRa5 := xRa_w3.c5
  have dRa6 := xRa_w3.c6
  have dRa7 := xRa_w3.c7
  have dRa8 := xRa_w3.c8
  have dRa9 := xRa_w3.c9
  have dRa10 := xRa_w3.c10
  have dRa11 := xRa_w3.c11
  have dRa12 := xRa_w3.c12
  have dRa13 := xRa_w3.c13
  have dRa14 := xRa_w3.c14
  have dRa15 := xRa_w3.c15
  have dRa16 := xRa_w3.c16
  go_wp2
  go_ret
  exact ⟨ret_bool HE.out, by rw [HR.out]; exact Bw3⟩

set_option maxRecDepth 100000 in
set_option maxHeartbeats 4000000 in
theorem refFetch_u (L : List Src) (v : Value) (rk : Int) (rt : ByteArray) (o : Bool) (s2 h2 : ByteArray) (p : Int) (pa2 q2 : ByteArray) (mv : Bool) (rn : ByteArray) (pr : Bool) (o3 : Bool) (s3 h3 : ByteArray) (p3 : Int) (pa3 q3 : ByteArray) (CN : Hid (∀ W, SrcsIn W v L → Calls Tryz.prog 15 #[v, .string rn] W fun e w' => e = .returned (.bool false) ∧ Below W.heap.size W w')) (C6 : Hid (∀ W, SrcsIn W v L → Calls Tryz.prog 42 #[v, .int .i64 6] W fun e w' => e = .returned (.bool false) ∧ Below W.heap.size W w')) (ur : Bool) (CU : Hid (∀ W, Low W → SrcsIn W v L → Calls Tryz.prog 13 #[v, uV o s2 h2 p pa2 q2, uV o3 s3 h3 p3 pa3 q3, .bool mv] W fun e w' => e = .returned (.bool ur) ∧ Below W.heap.size W w')) (b : Bool) (he : ur = b) (w : World) (hw : Low w) (hv : SrcsIn w v L) : Calls Tryz.prog 25 #[v, reqV rk rt o s2 h2 p pa2 q2 mv rn pr o3 s3 h3 p3 pa3 q3] w fun e w' => e = .returned (.bool b) ∧ Below w.heap.size w w' := by
  have HE := Lib.hid he
  clear he
  unfold uV reqV at *
  go_enter Tryz.func25, Tryz.ntmps25
  go_wp2_with fail
  have xn := RX.made w rk rt o s2 h2 p pa2 q2 mv rn pr o3 s3 h3 p3 pa3 q3
  have gw1 := hw.made (.cells #[.int .i64 rk, .string rt, .bool o, .string s2, .string h2, .int .i64 p, .string pa2, .string q2, .bool mv, .string rn, .bool pr, .bool o3, .string s3, .string h3, .int .i64 p3, .string pa3, .string q3] 27)
  have lw1 := hv.made (.cells #[.int .i64 rk, .string rt, .bool o, .string s2, .string h2, .int .i64 p, .string pa2, .string q2, .bool mv, .string rn, .bool pr, .bool o3, .string s3, .string h3, .int .i64 p3, .string pa3, .string q3] 27)
  have Bw1 : Below w.heap.size w (w.alloc (.cells #[.int .i64 rk, .string rt, .bool o, .string s2, .string h2, .int .i64 p, .string pa2, .string q2, .bool mv, .string rn, .bool pr, .bool o3, .string s3, .string h3, .int .i64 p3, .string pa3, .string q3] 27)) := ((Below.refl w.heap.size w).alloc (Nat.le_refl _) (.cells #[.int .i64 rk, .string rt, .bool o, .string s2, .string h2, .int .i64 p, .string pa2, .string q2, .bool mv, .string rn, .bool pr, .bool o3, .string s3, .string h3, .int .i64 p3, .string pa3, .string q3] 27))
  generalize hR : w.heap.size = Ra at xn Bw1 ⊢
  have HR := Lib.hid hR
  clear hR
  generalize w.alloc (.cells #[.int .i64 rk, .string rt, .bool o, .string s2, .string h2, .int .i64 p, .string pa2, .string q2, .bool mv, .string rn, .bool pr, .bool o3, .string s3, .string h3, .int .i64 p3, .string pa3, .string q3] 27) = w1 at xn gw1 lw1 Bw1  ⊢
  have xRa_w1 := xn
  clear xn hw hv
  refine (C6.out _ lw1).mono ?_
  rintro e w2 ⟨rfl, b_⟩
  have gw2 := gw1.below b_
  have lw2 := lw1.below b_
  have Bw2 := Bw1.trans (b_.mono (Nat.le_of_lt xRa_w1.lt))
  have xRa_w2 := xRa_w1.below b_
  clear b_ gw1 lw1 Bw1 xRa_w1
  have dRa0 := xRa_w2.c0
  have dRa1 := xRa_w2.c1
  have dRa2 := xRa_w2.c2
  have dRa3 := xRa_w2.c3
  have dRa4 := xRa_w2.c4
  have dRa5 := xRa_w2.c5
  have dRa6 := xRa_w2.c6
  have dRa7 := xRa_w2.c7
  have dRa8 := xRa_w2.c8
  have dRa9 := xRa_w2.c9
  have dRa10 := xRa_w2.c10
  have dRa11 := xRa_w2.c11
  have dRa12 := xRa_w2.c12
  have dRa13 := xRa_w2.c13
  have dRa14 := xRa_w2.c14
  have dRa15 := xRa_w2.c15
  have dRa16 := xRa_w2.c16
  go_wp2_with fail
  clear dRa0 dRa1 dRa2 dRa3 dRa4 dRa5 dRa6 dRa7 dRa8 dRa9 dRa10 dRa11 dRa12 dRa13 dRa14 dRa15 dRa16
  refine (CN.out _ lw2).mono ?_
  rintro e w3 ⟨rfl, b_⟩
  have gw3 := gw2.below b_
  have lw3 := lw2.below b_
  have Bw3 := Bw2.trans (b_.mono (Nat.le_of_lt xRa_w2.lt))
  have xRa_w3 := xRa_w2.below b_
  clear b_ gw2 lw2 Bw2 xRa_w2
  have dRa0 := xRa_w3.c0
  have dRa1 := xRa_w3.c1
  have dRa2 := xRa_w3.c2
  have dRa3 := xRa_w3.c3
  have dRa4 := xRa_w3.c4
  have dRa5 := xRa_w3.c5
  have dRa6 := xRa_w3.c6
  have dRa7 := xRa_w3.c7
  have dRa8 := xRa_w3.c8
  have dRa9 := xRa_w3.c9
  have dRa10 := xRa_w3.c10
  have dRa11 := xRa_w3.c11
  have dRa12 := xRa_w3.c12
  have dRa13 := xRa_w3.c13
  have dRa14 := xRa_w3.c14
  have dRa15 := xRa_w3.c15
  have dRa16 := xRa_w3.c16
  go_wp2_with fail
  clear dRa0 dRa1 dRa2 dRa3 dRa4 dRa5 dRa6 dRa7 dRa8 dRa9 dRa10 dRa11 dRa12 dRa13 dRa14 dRa15 dRa16
  refine (CU.out _ gw3 lw3).mono ?_
  rintro e w4 ⟨rfl, b_⟩
  have gw4 := gw3.below b_
  have lw4 := lw3.below b_
  have Bw4 := Bw3.trans (b_.mono (Nat.le_of_lt xRa_w3.lt))
  have xRa_w4 := xRa_w3.below b_
  clear b_ gw3 lw3 Bw3 xRa_w3
  have dRa0 := xRa_w4.c0
  have dRa1 := xRa_w4.c1
  have dRa2 := xRa_w4.c2
  have dRa3 := xRa_w4.c3
  have dRa4 := xRa_w4.c4
  have dRa5 := xRa_w4.c5
  have dRa6 := xRa_w4.c6
  have dRa7 := xRa_w4.c7
  have dRa8 := xRa_w4.c8
  have dRa9 := xRa_w4.c9
  have dRa10 := xRa_w4.c10
  have dRa11 := xRa_w4.c11
  have dRa12 := xRa_w4.c12
  have dRa13 := xRa_w4.c13
  have dRa14 := xRa_w4.c14
  have dRa15 := xRa_w4.c15
  have dRa16 := xRa_w4.c16
  go_wp2
  go_ret
  exact ⟨ret_bool HE.out, by rw [HR.out]; exact Bw4⟩

theorem refFetch_any (L : List Src) (v : Value) (hl : L.length ≤ 1000000) (hL : ∀ a ∈ L, a.h.length ≤ 100000 ∧ a.pa.length ≤ 100000) (rk : Int) (rt : ByteArray) (o : Bool) (s2 h2 : ByteArray) (p : Int) (pa2 q2 : ByteArray) (mv : Bool) (rn : ByteArray) (pr : Bool) (o3 : Bool) (s3 h3 : ByteArray) (p3 : Int) (pa3 q3 : ByteArray) (su1 : s2.size ≤ 100000) (su2 : h2.size ≤ 100000) (su3 : pa2.size ≤ 100000) (su4 : q2.size ≤ 100000) (sv1 : s3.size ≤ 100000) (sv2 : h3.size ≤ 100000) (sv3 : pa3.size ≤ 100000) (sv4 : q3.size ≤ 100000) (b : Bool) (hb : fetchL L (uM o s2 h2 p pa2 q2) (uM o3 s3 h3 p3 pa3 q3) mv rn.data.toList pr = b) (w : World) (hw : Low w) (hv : SrcsIn w v L) : Calls Tryz.prog 25 #[v, reqV rk rt o s2 h2 p pa2 q2 mv rn pr o3 s3 h3 p3 pa3 q3] w fun e w' => e = .returned (.bool b) ∧ Below w.heap.size w w' := by
  cases h1 : nonceL L rn.data.toList <;> cases h6 : hasL L 6
  all_goals
    have CN := refNonce_hid L v hl rn _ h1
    have C6 := refHas_hid L v hl 6 _ h6
    unfold fetchL at hb
    rw [h1, h6] at hb
  · exact refFetch_u L v rk rt o s2 h2 p pa2 q2 mv rn pr o3 s3 h3 p3 pa3 q3 CN C6 _ (refUrl11_hid o s2 h2 p pa2 q2 o3 s3 h3 p3 pa3 q3 mv su1 su2 su3 su4 sv1 sv2 sv3 sv4 L v hl hL _ rfl) b hb w hw hv
  · exact refFetch_s L v rk rt o s2 h2 p pa2 q2 mv rn pr o3 s3 h3 p3 pa3 q3 CN C6 b hb w hw hv
  · exact refFetch_n L v rk rt o s2 h2 p pa2 q2 mv rn pr o3 s3 h3 p3 pa3 q3 CN C6 b hb w hw hv
  · exact refFetch_sn L v rk rt o s2 h2 p pa2 q2 mv rn pr o3 s3 h3 p3 pa3 q3 CN C6 b hb w hw hv
theorem refFetch_hid (L : List Src) (v : Value) (hl : L.length ≤ 1000000) (hL : ∀ a ∈ L, a.h.length ≤ 100000 ∧ a.pa.length ≤ 100000) (rk : Int) (rt : ByteArray) (o : Bool) (s2 h2 : ByteArray) (p : Int) (pa2 q2 : ByteArray) (mv : Bool) (rn : ByteArray) (pr : Bool) (o3 : Bool) (s3 h3 : ByteArray) (p3 : Int) (pa3 q3 : ByteArray) (su1 : s2.size ≤ 100000) (su2 : h2.size ≤ 100000) (su3 : pa2.size ≤ 100000) (su4 : q2.size ≤ 100000) (sv1 : s3.size ≤ 100000) (sv2 : h3.size ≤ 100000) (sv3 : pa3.size ≤ 100000) (sv4 : q3.size ≤ 100000) (b : Bool) (hb : fetchL L (uM o s2 h2 p pa2 q2) (uM o3 s3 h3 p3 pa3 q3) mv rn.data.toList pr = b) : Hid (∀ W, Low W → SrcsIn W v L → Calls Tryz.prog 25 #[v, reqV rk rt o s2 h2 p pa2 q2 mv rn pr o3 s3 h3 p3 pa3 q3] W fun e w' => e = .returned (.bool b) ∧ Below W.heap.size W w') :=
  Lib.hid fun W hw hv => refFetch_any L v hl hL rk rt o s2 h2 p pa2 q2 mv rn pr o3 s3 h3 p3 pa3 q3 su1 su2 su3 su4 sv1 sv2 sv3 sv4 b hb W hw hv

set_option maxRecDepth 100000 in
set_option maxHeartbeats 4000000 in
theorem refEval_five (L : List Src) (v : Value) (r : Bool) (C4 : Hid (∀ W, SrcsIn W v L → Calls Tryz.prog 42 #[v, .int .i64 4] W fun e w' => e = .returned (.bool r) ∧ Below W.heap.size W w')) (b : Bool) (he : r = b) (w : World) (hv : SrcsIn w v L) : Calls Tryz.prog 27 #[v, .int .i64 5] w fun e w' => e = .returned (.bool b) ∧ Below w.heap.size w w' := by
  have HE := Lib.hid he
  clear he
  go_enter Tryz.func27, Tryz.ntmps27
  go_wp2_with fail
  refine (C4.out _ hv).mono ?_
  rintro e w1 ⟨rfl, b_⟩
  have lw1 := hv.below b_
  have Bw1 := b_
  clear b_ hv
  go_wp2
  go_ret
  exact ⟨ret_bool HE.out, Bw1⟩

set_option maxRecDepth 100000 in
set_option maxHeartbeats 4000000 in
theorem refEval_sixa (L : List Src) (v : Value) (C4 : Hid (∀ W, SrcsIn W v L → Calls Tryz.prog 42 #[v, .int .i64 4] W fun e w' => e = .returned (.bool true) ∧ Below W.heap.size W w')) (b : Bool) (he : true = b) (w : World) (hv : SrcsIn w v L) : Calls Tryz.prog 27 #[v, .int .i64 6] w fun e w' => e = .returned (.bool b) ∧ Below w.heap.size w w' := by
  have HE := Lib.hid he
  clear he
  go_enter Tryz.func27, Tryz.ntmps27
  go_wp2_with fail
  refine (C4.out _ hv).mono ?_
  rintro e w1 ⟨rfl, b_⟩
  have lw1 := hv.below b_
  have Bw1 := b_
  clear b_ hv
  go_wp2
  go_ret
  exact ⟨ret_bool HE.out, Bw1⟩

set_option maxRecDepth 100000 in
set_option maxHeartbeats 4000000 in
theorem refEval_sixb (L : List Src) (v : Value) (r : Bool) (C4 : Hid (∀ W, SrcsIn W v L → Calls Tryz.prog 42 #[v, .int .i64 4] W fun e w' => e = .returned (.bool false) ∧ Below W.heap.size W w')) (C5 : Hid (∀ W, SrcsIn W v L → Calls Tryz.prog 42 #[v, .int .i64 5] W fun e w' => e = .returned (.bool r) ∧ Below W.heap.size W w')) (b : Bool) (he : r = b) (w : World) (hv : SrcsIn w v L) : Calls Tryz.prog 27 #[v, .int .i64 6] w fun e w' => e = .returned (.bool b) ∧ Below w.heap.size w w' := by
  have HE := Lib.hid he
  clear he
  go_enter Tryz.func27, Tryz.ntmps27
  go_wp2_with fail
  refine (C4.out _ hv).mono ?_
  rintro e w1 ⟨rfl, b_⟩
  have lw1 := hv.below b_
  have Bw1 := b_
  clear b_ hv
  go_wp2_with fail
  refine (C5.out _ lw1).mono ?_
  rintro e w2 ⟨rfl, b_⟩
  have lw2 := lw1.below b_
  have Bw2 := Bw1.trans (b_.mono Bw1.size)
  clear b_ lw1 Bw1
  go_wp2
  go_ret
  exact ⟨ret_bool HE.out, Bw2⟩

set_option maxRecDepth 100000 in
set_option maxHeartbeats 4000000 in
theorem refEval_no (k : Int) (n5 : (k == 5) = false) (n6 : (k == 6) = false) (v : Value) (w : World) : Calls Tryz.prog 27 #[v, .int .i64 k] w fun e w' => e = .returned (.bool false) ∧ Below w.heap.size w w' := by
  go_enter Tryz.func27, Tryz.ntmps27
  go_wp2
  go_ret
  exact ⟨rfl, Below.refl _ _⟩

theorem refEval_any (L : List Src) (v : Value) (hl : L.length ≤ 1000000) (k : Int) (b : Bool) (hb : evalL L k = b) (w : World) (hv : SrcsIn w v L) : Calls Tryz.prog 27 #[v, .int .i64 k] w fun e w' => e = .returned (.bool b) ∧ Below w.heap.size w w' := by
  by_cases e5 : k = 5
  · subst e5
    exact refEval_five L v _ (refHas_hid L v hl 4 _ rfl) b (by rw [← hb]; unfold evalL; rw [if_pos rfl]) w hv
  by_cases e6 : k = 6
  · subst e6
    cases h4 : hasL L 4
    · exact refEval_sixb L v _ (refHas_hid L v hl 4 _ h4) (refHas_hid L v hl 5 _ rfl) b (by rw [← hb]; unfold evalL; rw [if_neg (by decide), if_pos rfl, h4]; rfl) w hv
    · exact refEval_sixa L v (refHas_hid L v hl 4 _ h4) b (by rw [← hb]; unfold evalL; rw [if_neg (by decide), if_pos rfl, h4]; rfl) w hv
  rw [show b = false by rw [← hb]; unfold evalL; rw [if_neg e5, if_neg e6]]
  exact refEval_no k (beq_eq_false_iff_ne.2 e5) (beq_eq_false_iff_ne.2 e6) v w
theorem refEval_hid (L : List Src) (v : Value) (hl : L.length ≤ 1000000) (k : Int) (b : Bool) (hb : evalL L k = b) : Hid (∀ W, SrcsIn W v L → Calls Tryz.prog 27 #[v, .int .i64 k] W fun e w' => e = .returned (.bool b) ∧ Below W.heap.size W w') :=
  Lib.hid fun W hv => refEval_any L v hl k b hb W hv

end Go.Proofs.YtaldjkbnngeahaaGreatDoor
