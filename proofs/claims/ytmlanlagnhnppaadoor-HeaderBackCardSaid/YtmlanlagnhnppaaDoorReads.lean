/- The rows that every law asks first. -/
import Derived.Test.YtmlanlagnhnppaaDoorRefHJ
import Derived.Test.YtmlanlagnhnppaaDoorHdH
import Derived.Test.YtmlanlagnhnppaaDoorHdI
namespace Go.Proofs.YtmlanlagnhnppaaDoor
open Go.RowKit

def tA : List UInt8 := [83, 99, 114, 105, 112, 116, 45, 83, 114, 99, 32, 39, 115, 101, 108, 102, 39, 32, 104, 116, 116, 112, 115, 58, 59, 32, 120, 32, 121, 44, 32, 59, 100, 101, 102, 97, 117, 108, 116, 45, 115, 114, 99]
def tB : List UInt8 := [97, 32, 49, 59, 32, 65, 32, 50, 59, 59, 32, 44, 32, 44, 98]
def wSelf : List UInt8 := [39, 115, 101, 108, 102, 39]
def wHttps : List UInt8 := [104, 116, 116, 112, 115, 58]
def nScript : List UInt8 := [115, 99, 114, 105, 112, 116, 45, 115, 114, 99]
def nDefault : List UInt8 := [100, 101, 102, 97, 117, 108, 116, 45, 115, 114, 99]
theorem readA : polsM false tA = [([⟨nScript, [wSelf, wHttps]⟩, ⟨[120], [[121]]⟩], false), ([⟨nDefault, []⟩], false)] := by decide +kernel
theorem readB : polsM true tB = [([⟨[97], [[49]]⟩], true), ([⟨[98], []⟩], true)] := by decide +kernel
theorem readC : findM [⟨[97], [[49]]⟩] [65] = some [[49]] := by decide +kernel
theorem rightD : rightH [⟨[97], [[49]]⟩, ⟨[98], []⟩] := ⟨by simp, by decide +kernel, by unfold onceM; decide +kernel⟩
theorem printD : pT [⟨[97], [[49]]⟩, ⟨[98], []⟩] = [97, 32, 49, 59, 32, 98] := by decide +kernel
theorem rightE : ¬ rightH [] := fun h => h.1 rfl
theorem str_is (S : ByteArray) (l : List UInt8) (h : S.data.toList = l) : (S.toList == l) = true := by
  rw [ByteArray.toList_eq, h]; simp

theorem dirs_new {W : World} {ds : List D} {C : Array Value} {n c : Nat} (hn : n = ds.length) (h : ∀ j, (h : j < ds.length) → C[j * 2]? = some (strV ds[j].n) ∧ ∃ u, C[j * 2 + 1]? = some u ∧ TextsIn W u ds[j].w) : DirsIn (W.alloc (.cells C 42)) (.slice (some ⟨W.heap.size, 0, none⟩) n c) ds := by
  subst hn
  refine .inr ⟨W.heap.size, 0, c, rfl, fun j hj => ?_⟩
  obtain ⟨h1, u, h2, h3⟩ := h j hj
  rw [Nat.zero_add, World.cell?_alloc_mark, World.cell?_alloc_mark]
  exact ⟨h1, u, h2, h3.below ((Below.refl _ _).alloc (Nat.le_refl _) _)⟩
theorem find_row (w : World) (dv : Value) (hd : DirsIn w dv [⟨[97], [[49]]⟩]) : Calls Tryd.prog 15 #[.agg #[dv, .bool false], .string ⟨#[65]⟩] w fun e w' => ∃ a c, e = .returned (.tuple #[.slice a 1 c, .bool true]) ∧ TextsIn w' (.slice a 1 c) [[49]] ∧ Below w.heap.size w w' :=
  (find_any [⟨[97], [[49]]⟩] dv false ⟨#[65]⟩ w hd (by decide) (by decide) (by decide)).mono fun e w' h => by
    obtain ⟨h1, h2⟩ := h
    have h0 : findM [⟨[97], [[49]]⟩] (⟨#[65]⟩ : ByteArray).data.toList = some [[49]] := readC
    rw [h0] at h2
    rcases h2 with ⟨h3, _⟩ | ⟨ws, v, h3, rfl, h4⟩
    · cases h3
    · cases h3
      have h5 := TextsIn.of_row h4
      obtain ⟨a, c, rfl⟩ := h5.form
      exact ⟨a, c, rfl, h5, h1⟩
theorem print_row (w : World) (dv : Value) (hd : DirsIn w dv [⟨[97], [[49]]⟩, ⟨[98], []⟩]) : ∃ T : ByteArray, T.data.toList = [97, 32, 49, 59, 32, 98] ∧ Calls Tryd.prog 17 #[.agg #[dv, .bool false]] w fun e w' => e = .returned (.tuple #[.string T, .bool true]) ∧ Below w.heap.size w w' := by
  obtain ⟨T, hT⟩ := text_of [97, 32, 49, 59, 32, 98]
  exact ⟨T, hT, print_right _ rightD dv false w hd (by decide) (by decide) (by rw [printD]; decide) T (by rw [hT, printD])⟩
theorem print_none (w : World) : Calls Tryd.prog 17 #[.agg #[.slice none 0 0, .bool false]] w fun e w' => e = .returned (.tuple #[.string ⟨#[]⟩, .bool false]) ∧ Below w.heap.size w w' :=
  print_wrong [] rightE (.slice none 0 0) false w (.inl ⟨⟨none, 0, rfl⟩, rfl⟩) (by decide) (by decide)
/-- The cells of a policy's row, of a directive's. -/
theorem pol_cells {w : World} {a : Option Addr} {n c : Nat} {ps : List (List D × Bool)} (h : PolsIn w (.slice a n c) ps) (h0 : 0 < ps.length) : ∃ B off, a = some ⟨B, off, none⟩ ∧ ∀ j, (hj : j < ps.length) → ∃ u, w.cell? ⟨B, off + j * 2, none⟩ = some u ∧ w.cell? ⟨B, off + j * 2 + 1, none⟩ = some (.bool ps[j].2) ∧ DirsIn w u ps[j].1 := by
  obtain ⟨B, off, u, rfl, _⟩ := h.at h0
  refine ⟨B, off, rfl, fun j hj => ?_⟩
  obtain ⟨B', off', u', h1, h2, h3, h4⟩ := h.at hj
  cases h1
  exact ⟨u', h2, h3, h4⟩

set_option maxRecDepth 100000 in
set_option maxHeartbeats 16000000 in
theorem reads_any (w : World) (hm : MaxIn w) : Calls Tryd.prog 9 #[] w fun e w' => e = .returned (.bool true) ∧ Below w.heap.size w w' := by
  have CA : Hid (∀ W, MaxIn W → Calls Tryd.prog 11 #[.string ⟨#[83, 99, 114, 105, 112, 116, 45, 83, 114, 99, 32, 39, 115, 101, 108, 102, 39, 32, 104, 116, 116, 112, 115, 58, 59, 32, 120, 32, 121, 44, 32, 59, 100, 101, 102, 97, 117, 108, 116, 45, 115, 114, 99]⟩, .bool false] W fun e w' => ∃ v, e = .returned v ∧ OwnP w' W.heap.size v [([⟨nScript, [wSelf, wHttps]⟩, ⟨[120], [[121]]⟩], false), ([⟨nDefault, []⟩], false)] ∧ Below W.heap.size W w') := Lib.hid (fun W h => by
    have := parse_any ⟨#[83, 99, 114, 105, 112, 116, 45, 83, 114, 99, 32, 39, 115, 101, 108, 102, 39, 32, 104, 116, 116, 112, 115, 58, 59, 32, 120, 32, 121, 44, 32, 59, 100, 101, 102, 97, 117, 108, 116, 45, 115, 114, 99]⟩ (by decide) false W h
    rw [← readA]
    exact this)
  have CB : Hid (∀ W, MaxIn W → Calls Tryd.prog 11 #[.string ⟨#[97, 32, 49, 59, 32, 65, 32, 50, 59, 59, 32, 44, 32, 44, 98]⟩, .bool true] W fun e w' => ∃ v, e = .returned v ∧ OwnP w' W.heap.size v [([⟨[97], [[49]]⟩], true), ([⟨[98], []⟩], true)] ∧ Below W.heap.size W w') := Lib.hid (fun W h => by
    have := parse_any ⟨#[97, 32, 49, 59, 32, 65, 32, 50, 59, 59, 32, 44, 32, 44, 98]⟩ (by decide) true W h
    rw [← readB]
    exact this)
  go_enter Tryd.func9, Tryd.ntmps9
  go_wp2_with fail
  refine (CA.out _ hm).mono ?_
  rintro e w1 ⟨vA, rfl, pA, b1⟩
  obtain ⟨aA, cA, rfl⟩ := pA.in.form
  have m1 := hm.below b1
  have H1 := Lib.hid (And.intro pA.in b1)
  clear pA b1 hm CA
  go_wp2_with fail
  refine (CB.out _ m1).mono ?_
  rintro e w2 ⟨vB, rfl, pB, b2⟩
  obtain ⟨aB, cB, rfl⟩ := pB.in.form
  have H2 := Lib.hid (And.intro (H1.out.1.below b2) (And.intro pB.in (H1.out.2.trans (b2.mono H1.out.2.size))))
  clear pB b2 m1 CB H1
  go_wp2_with fail
  -- the policy that a name is looked for in
  have bx : Below w2.heap.size w2 (w2.alloc (.cells #[.string ⟨#[49]⟩] 9)) := (Below.refl _ _).alloc (Nat.le_refl _) _
  have tx : TextsIn (w2.alloc (.cells #[.string ⟨#[49]⟩] 9)) (.slice (some ⟨w2.heap.size, 0, none⟩) 1 1) [[49]] := textsIn_new w2 [[49]] _ rfl 1 rfl 1
  have sx : (w2.alloc (.cells #[.string ⟨#[49]⟩] 9)).heap.size = w2.heap.size + 1 := by show (w2.heap.push _).size = _; simp
  have by2 : Below w2.heap.size w2 ((w2.alloc (.cells #[.string ⟨#[49]⟩] 9)).alloc (.cells #[.string ⟨#[97]⟩, .slice (some ⟨w2.heap.size, 0, none⟩) 1 1] 42)) := bx.trans ((Below.refl _ _).alloc (by omega) _)
  have dx : DirsIn ((w2.alloc (.cells #[.string ⟨#[49]⟩] 9)).alloc (.cells #[.string ⟨#[97]⟩, .slice (some ⟨w2.heap.size, 0, none⟩) 1 1] 42)) (.slice (some ⟨w2.heap.size + 1, 0, none⟩) 1 1) [⟨[97], [[49]]⟩] := by
    rw [← sx]
    refine dirs_new rfl (fun j hj => ?_)
    obtain rfl : j = 0 := by simp at hj; omega
    exact ⟨rfl, _, rfl, tx⟩
  generalize (w2.alloc (.cells #[.string ⟨#[49]⟩] 9)).alloc (.cells #[.string ⟨#[97]⟩, .slice (some ⟨w2.heap.size, 0, none⟩) 1 1] 42) = w3 at by2 dx ⊢
  refine (find_row w3 _ dx).mono ?_
  rintro e w4 ⟨aF, cF, rfl, tF, b4⟩
  have B4 := by2.trans (b4.mono by2.size)
  have H4 := Lib.hid (And.intro (H2.out.1.below B4) (And.intro (H2.out.2.1.below B4) (And.intro tF (H2.out.2.2.trans (B4.mono H2.out.2.2.size)))))
  clear bx tx sx by2 dx tF b4 B4 H2
  go_wp2_with fail
  -- the policy that is told
  have bx : Below w4.heap.size w4 (w4.alloc (.cells #[.string ⟨#[49]⟩] 9)) := (Below.refl _ _).alloc (Nat.le_refl _) _
  have tx : TextsIn (w4.alloc (.cells #[.string ⟨#[49]⟩] 9)) (.slice (some ⟨w4.heap.size, 0, none⟩) 1 1) [[49]] := textsIn_new w4 [[49]] _ rfl 1 rfl 1
  have sx : (w4.alloc (.cells #[.string ⟨#[49]⟩] 9)).heap.size = w4.heap.size + 1 := by show (w4.heap.push _).size = _; simp
  have by2 : Below w4.heap.size w4 ((w4.alloc (.cells #[.string ⟨#[49]⟩] 9)).alloc (.cells #[.string ⟨#[97]⟩, .slice (some ⟨w4.heap.size, 0, none⟩) 1 1, .string ⟨#[98]⟩, .slice none 0 0] 42)) := bx.trans ((Below.refl _ _).alloc (by omega) _)
  have dx : DirsIn ((w4.alloc (.cells #[.string ⟨#[49]⟩] 9)).alloc (.cells #[.string ⟨#[97]⟩, .slice (some ⟨w4.heap.size, 0, none⟩) 1 1, .string ⟨#[98]⟩, .slice none 0 0] 42)) (.slice (some ⟨w4.heap.size + 1, 0, none⟩) 2 2) [⟨[97], [[49]]⟩, ⟨[98], []⟩] := by
    rw [← sx]
    refine dirs_new rfl (fun j hj => ?_)
    obtain rfl | rfl : j = 0 ∨ j = 1 := by simp at hj; omega
    · exact ⟨rfl, _, rfl, tx⟩
    · exact ⟨rfl, _, rfl, .inl ⟨⟨none, 0, rfl⟩, rfl⟩⟩
  generalize (w4.alloc (.cells #[.string ⟨#[49]⟩] 9)).alloc (.cells #[.string ⟨#[97]⟩, .slice (some ⟨w4.heap.size, 0, none⟩) 1 1, .string ⟨#[98]⟩, .slice none 0 0] 42) = w5 at by2 dx ⊢
  obtain ⟨T, hT, CT⟩ := print_row w5 _ dx
  have HTE := Lib.hid (str_is T _ hT)
  refine CT.mono ?_
  rintro e w6 ⟨rfl, b6⟩
  have B6 := by2.trans (b6.mono by2.size)
  have H6 := Lib.hid (And.intro (H4.out.1.below B6) (And.intro (H4.out.2.1.below B6) (And.intro (H4.out.2.2.1.below B6) (H4.out.2.2.2.trans (B6.mono H4.out.2.2.2.size)))))
  clear bx tx sx by2 dx b6 B6 H4 CT hT
  go_wp2_with fail
  refine (print_none w6).mono ?_
  rintro e w7 ⟨rfl, b7⟩
  have H7 := Lib.hid (And.intro (H6.out.1.below b7) (And.intro (H6.out.2.1.below b7) (And.intro (H6.out.2.2.1.below b7) (H6.out.2.2.2.trans (b7.mono H6.out.2.2.2.size)))))
  clear b7 H6
  obtain ⟨BA, oA, rfl, hcA⟩ := pol_cells H7.out.1 (by decide)
  obtain ⟨u0, ka0, ka1, da0⟩ := hcA 0 (by decide)
  obtain ⟨u1, ka2, ka3, da1⟩ := hcA 1 (by decide)
  obtain ⟨a0, c0, rfl⟩ := da0.form
  obtain ⟨a1, c1, rfl⟩ := da1.form
  obtain ⟨B0, o0, uw, rfl, kn, kw, tw⟩ := da0.at (j := 0) (by decide)
  obtain ⟨aw, cw, rfl⟩ := tw.form
  obtain ⟨BB, oB, rfl, hcB⟩ := pol_cells H7.out.2.1 (by decide)
  obtain ⟨v0, kb0, kb1, db0⟩ := hcB 0 (by decide)
  obtain ⟨v1, kb2, kb3, db1⟩ := hcB 1 (by decide)
  obtain ⟨b0, e0, rfl⟩ := db0.form
  obtain ⟨b1, e1, rfl⟩ := db1.form
  obtain ⟨B1, o1, ux, rfl, kx, _, _⟩ := db1.at (j := 0) (by decide)
  obtain ⟨NS, hNS⟩ : ∃ S : ByteArray, S = ⟨nScript.toArray⟩ := ⟨_, rfl⟩
  obtain ⟨NB, hNB⟩ : ∃ S : ByteArray, S = ⟨([98] : List UInt8).toArray⟩ := ⟨_, rfl⟩
  have gS : (NS.toList == [115, 99, 114, 105, 112, 116, 45, 115, 114, 99]) = true := str_is NS _ (by rw [hNS]; rfl)
  have gB : (NB.toList == [98]) = true := str_is NB _ (by rw [hNB])
  have gT := HTE.out
  replace kn : w7.cell? ⟨B0, o0, none⟩ = some (.string NS) := by have := kn; rw [hNS]; simpa [strV] using this
  replace kx : w7.cell? ⟨B1, o1, none⟩ = some (.string NB) := by have := kx; rw [hNB]; simpa [strV] using this
  replace kw : w7.cell? ⟨B0, o0 + 1, none⟩ = some (.slice aw 2 cw) := by simpa using kw
  replace ka0 : w7.cell? ⟨BA, oA, none⟩ = some (.slice (some ⟨B0, o0, none⟩) 2 c0) := by simpa using ka0
  replace ka1 : w7.cell? ⟨BA, oA + 1, none⟩ = some (.bool false) := by simpa using ka1
  replace ka2 : w7.cell? ⟨BA, oA + 2, none⟩ = some (.slice a1 1 c1) := by simpa using ka2
  replace kb0 : w7.cell? ⟨BB, oB, none⟩ = some (.slice b0 1 e0) := by simpa using kb0
  replace kb1 : w7.cell? ⟨BB, oB + 1, none⟩ = some (.bool true) := by simpa using kb1
  replace kb2 : w7.cell? ⟨BB, oB + 2, none⟩ = some (.slice (some ⟨B1, o1, none⟩) 1 e1) := by simpa using kb2
  have HTW := Lib.hid tw
  clear hcA hcB ka3 kb3 da0 da1 db0 db1 hNS hNB tw
  go_wp2_with fail
  have bs : Below w7.heap.size w7 (w7.alloc (.cells #[.string ⟨#[39, 115, 101, 108, 102, 39]⟩, .string ⟨#[104, 116, 116, 112, 115, 58]⟩] 9)) := (Below.refl _ _).alloc (Nat.le_refl _) _
  have ts : TextsIn (w7.alloc (.cells #[.string ⟨#[39, 115, 101, 108, 102, 39]⟩, .string ⟨#[104, 116, 116, 112, 115, 58]⟩] 9)) (.slice (some ⟨w7.heap.size, 0, none⟩) 2 2) [wSelf, wHttps] := textsIn_new w7 [wSelf, wHttps] _ rfl 2 rfl 2
  have CT8 := texts_bool [wSelf, wHttps] [wSelf, wHttps] true (eqT_self _) _ _ _ (HTW.out.below bs) ts (by decide) (by decide)
  generalize w7.alloc (.cells #[.string ⟨#[39, 115, 101, 108, 102, 39]⟩, .string ⟨#[104, 116, 116, 112, 115, 58]⟩] 9) = w8 at bs ts CT8 ⊢
  refine CT8.mono ?_
  rintro e w9 ⟨rfl, b9⟩
  have B9 := bs.trans (b9.mono bs.size)
  replace ka1 : w9.cell? ⟨BA, oA + 1, none⟩ = some (.bool false) := by rw [B9.cell (lt_of_cell ka1)]; exact ka1
  replace ka2 : w9.cell? ⟨BA, oA + 2, none⟩ = some (.slice a1 1 c1) := by rw [B9.cell (lt_of_cell ka2)]; exact ka2
  replace kb0 : w9.cell? ⟨BB, oB, none⟩ = some (.slice b0 1 e0) := by rw [B9.cell (lt_of_cell kb0)]; exact kb0
  replace kb1 : w9.cell? ⟨BB, oB + 1, none⟩ = some (.bool true) := by rw [B9.cell (lt_of_cell kb1)]; exact kb1
  replace kb2 : w9.cell? ⟨BB, oB + 2, none⟩ = some (.slice (some ⟨B1, o1, none⟩) 1 e1) := by rw [B9.cell (lt_of_cell kb2)]; exact kb2
  replace kx : w9.cell? ⟨B1, o1, none⟩ = some (.string NB) := by rw [B9.cell (lt_of_cell kx)]; exact kx
  have H9 := Lib.hid (And.intro (H7.out.2.2.1.below B9) (H7.out.2.2.2.trans (B9.mono H7.out.2.2.2.size)))
  clear b9 B9 bs ts CT8 kn kw ka0 H7 HTW gS
  go_wp2_with fail
  have bs : Below w9.heap.size w9 (w9.alloc (.cells #[.string ⟨#[49]⟩] 9)) := (Below.refl _ _).alloc (Nat.le_refl _) _
  have ts : TextsIn (w9.alloc (.cells #[.string ⟨#[49]⟩] 9)) (.slice (some ⟨w9.heap.size, 0, none⟩) 1 1) [[49]] := textsIn_new w9 [[49]] _ rfl 1 rfl 1
  have CT9 := texts_bool [[49]] [[49]] true (eqT_self _) _ _ _ (H9.out.1.below bs) ts (by decide) (by decide)
  generalize w9.alloc (.cells #[.string ⟨#[49]⟩] 9) = w10 at bs ts CT9 ⊢
  refine CT9.mono ?_
  rintro e w11 ⟨rfl, b11⟩
  have HB := Lib.hid (H9.out.2.trans ((bs.trans (b11.mono bs.size)).mono H9.out.2.size))
  clear b11 bs ts CT9 H9
  go_wp2
  go_ret
  exact ⟨rfl, HB.out⟩
theorem reads_hid : Hid (∀ W, MaxIn W → Calls Tryd.prog 9 #[] W fun e w' => e = .returned (.bool true) ∧ Below W.heap.size W w') := Lib.hid fun W h => reads_any W h

end Go.Proofs.YtmlanlagnhnppaaDoor
