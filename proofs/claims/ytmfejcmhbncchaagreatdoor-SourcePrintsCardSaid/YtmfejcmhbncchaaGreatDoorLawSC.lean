/- SourcePrints: a source has just this word, or none. -/
import Derived.Test.YtmfejcmhbncchaaGreatDoorSrcW
import Derived.Test.YtmfejcmhbncchaaGreatDoorRefSF
namespace Go.Proofs.YtmfejcmhbncchaaGreatDoor
open Go.RowKit

theorem srcsIn_new (W : World) (L : List Src) (C : Array Value) (hC : C = (srcCs L).toArray) (n : Nat) (hn : n = L.length) (c : Nat) : SrcsIn (W.alloc (.cells C 24)) (.slice (some ⟨W.heap.size, 0, none⟩) n c) L := by
  subst hn hC
  refine .inr ⟨_, 0, c, rfl, fun i hi j u hu => ?_⟩
  have hj : j < 7 := (List.getElem?_eq_some_iff.1 hu).1
  rw [Nat.zero_add, World.cell?_alloc_mark]
  have := srcCs_at L i j hi hj
  rw [hu] at this
  simpa using this

set_option maxRecDepth 100000 in
set_option maxHeartbeats 4000000 in
theorem prints_law (k : Int) (t s h : ByteArray) (b : Bool) (p : Int) (pa : ByteArray) (w : World) (hw : Low w) : Calls Tryz.prog 3 #[srcV k t s h b p pa] w fun e w' => e = .returned (.bool true) ∧ Below w.heap.size w w' := by
  have CB : Hid (∀ W v, SrcsIn W v [srcM k t s h b p pa] → Calls Tryz.prog 8 #[v] W (Big9Post [srcM k t s h b p pa] W)) := Lib.hid fun W v h => refBig9_any _ v W h (by simp)
  have CW := words_hid
  unfold srcV at *
  go_enter Tryz.func3, Tryz.ntmps3
  go_wp2_with fail
  have xR := SX.made w k t s h b p pa
  have g1 := hw.made (.cells #[.int .i64 k, .string t, .string s, .string h, .bool b, .int .i64 p, .string pa] 24)
  have B1 : Below w.heap.size w (w.alloc (.cells #[.int .i64 k, .string t, .string s, .string h, .bool b, .int .i64 p, .string pa] 24)) := (Below.refl _ _).alloc (Nat.le_refl _) _
  have hsz := size_allocS w (.cells #[.int .i64 k, .string t, .string s, .string h, .bool b, .int .i64 p, .string pa] 24)
  generalize hR : w.heap.size = R at xR B1 hsz ⊢
  have HR := Lib.hid hR
  clear hR
  generalize w.alloc (.cells #[.int .i64 k, .string t, .string s, .string h, .bool b, .int .i64 p, .string pa] 24) = w1 at xR g1 B1 hsz ⊢
  have tz := srcsIn_new w1 [srcM k t s h b p pa] #[.int .i64 k, .string t, .string s, .string h, .bool b, .int .i64 p, .string pa] (by unfold srcCs; simp [srcC_M]) 1 rfl 1
  have al : Below w1.heap.size w1 (w1.alloc (.cells #[.int .i64 k, .string t, .string s, .string h, .bool b, .int .i64 p, .string pa] 24)) := (Below.refl _ _).alloc (Nat.le_refl _) _
  have xR_w2 := xR.below al
  have gw2 := g1.below al
  have Bw2 := B1.trans (al.mono (Nat.le_of_lt xR.lt))
  rw [hsz] at tz
  try rw [hsz]
  generalize w1.alloc (.cells #[.int .i64 k, .string t, .string s, .string h, .bool b, .int .i64 p, .string pa] 24) = w2 at tz xR_w2 gw2 Bw2 ⊢
  clear xR g1 B1 hsz al
  refine (CB.out _ _ tz).mono ?_
  unfold Big9Post
  rintro e w2 ⟨bg, rfl, rfl, hsm⟩
  clear tz CB
  cases bg
  case true =>
    go_wp2
    go_ret
    exact ⟨rfl, by rw [HR.out]; exact Bw2⟩
  obtain ⟨h1, h2, h3, h4⟩ := (hsm rfl).2 _ (List.mem_singleton.2 rfl)
  simp only [srcM, lsize] at h1 h2 h3 h4
  obtain ⟨r, hr⟩ : ∃ r, rightS (srcM k t s h b p pa) = r := ⟨_, rfl⟩
  obtain ⟨T, hT⟩ := text_of (if r then wordS (srcM k t s h b p pa) else [])
  have CA := printL_hid k t s h b p pa (by omega) (by omega) (by omega) (by omega) r hr T hT
  have CR := printR_hid k t s h b p pa (by omega) (by omega) (by omega) (by omega) r hr T hT
  unfold srcV at CA CR
  have gT : (T.toList == T.toList) = true := by simp
  clear h1 h2 h3 h4 hsm hr hT
  have dR0 := xR_w2.c0
  have dR1 := xR_w2.c1
  have dR2 := xR_w2.c2
  have dR3 := xR_w2.c3
  have dR4 := xR_w2.c4
  have dR5 := xR_w2.c5
  have dR6 := xR_w2.c6
  go_wp2_with fail
  clear dR0 dR1 dR2 dR3 dR4 dR5 dR6
  refine (CA.out _ gw2).mono ?_
  rintro e w3 ⟨rfl, b_⟩
  have gw3 := gw2.below b_
  have Bw3 := Bw2.trans (b_.mono (Nat.le_of_lt xR_w2.lt))
  have xR_w3 := xR_w2.below b_
  clear b_ gw2 Bw2 xR_w2
  have dR0 := xR_w3.c0
  have dR1 := xR_w3.c1
  have dR2 := xR_w3.c2
  have dR3 := xR_w3.c3
  have dR4 := xR_w3.c4
  have dR5 := xR_w3.c5
  have dR6 := xR_w3.c6
  go_wp2_with fail
  clear dR0 dR1 dR2 dR3 dR4 dR5 dR6
  refine (CR.out _ ).mono ?_
  rintro e w4 ⟨rfl, b_⟩
  have gw4 := gw3.below b_
  have Bw4 := Bw3.trans (b_.mono (Nat.le_of_lt xR_w3.lt))
  have xR_w4 := xR_w3.below b_
  clear b_ gw3 Bw3 xR_w3
  go_wp2_with fail
  refine (CW.out _ gw4).mono ?_
  rintro e w5 ⟨rfl, b_⟩
  have gw5 := gw4.below b_
  have Bw5 := Bw4.trans (b_.mono (Nat.le_of_lt xR_w4.lt))
  have xR_w5 := xR_w4.below b_
  clear b_ gw4 Bw4 xR_w4
  go_wp2
  go_ret
  exact ⟨rfl, by rw [HR.out]; exact Bw5⟩

end Go.Proofs.YtmfejcmhbncchaaGreatDoor
