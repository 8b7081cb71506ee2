/- What the row's list gives: the two tables of unicode/utf8; and a world that bears them. The rows' arguments: bytes, numbers; the library's and the project's own variables, off the world's shape and the rows' list; a world for the witness, which holds what is listed. -/
import Derived.Test.YtfbhpmafjehojaaGreatDoorRows
import Derived.Lib.LaidU8
import Derived.ChangeMaps5
import Derived.Shelf.Vars
import Derived.LaidLaws
import Derived.Lib.ItoaNum
import Derived.Deep.Slices
import Derived.Test.YtfbhpmafjehojaaGreatDoorFdZ
namespace Go.Proofs.YtfbhpmafjehojaaGreatDoor.U1
open Go.Lib

theorem gFirst : Tryz.prog.globalNamed "unicode/utf8.first" = some 0 := by kernel_rfl
theorem gAcc : Tryz.prog.globalNamed "unicode/utf8.acceptRanges" = some 1 := by kernel_rfl
theorem gFirstType : (Tryz.prog.globals[0]?).map (·.type) = some 117 := by kernel_rfl
theorem gAccType : (Tryz.prog.globals[1]?).map (·.type) = some 120 := by kernel_rfl
theorem cells5 : Tryz.prog.cellsOf 5 = 1 := by kernel_rfl
theorem cells71 : Tryz.prog.cellsOf 117 = 256 := by kernel_rfl
theorem cells73 : Tryz.prog.cellsOf 119 = 2 := by kernel_rfl
theorem firstZ_eq : Go.Pinned.utf8FirstZ = (List.range 256).map firstT := by decide +kernel
theorem first_eq : Rows.laid_unicode_utf8_first = tabData .u8 firstTab := by
  unfold Rows.laid_unicode_utf8_first Go.Pinned.utf8First Go.Pinned.numbers tabData firstTab
  rw [firstZ_eq]
  simp only [List.map_map]
  rfl
theorem acc_eq : (Rows.laid_unicode_utf8_acceptRanges : DataW Unit) = acceptData := by kernel_rfl

theorem tabs_of_reads {W : World} (g3 : VarReads Tryz.prog W "unicode/utf8.first" Rows.laid_unicode_utf8_first) (g4 : VarReads Tryz.prog W "unicode/utf8.acceptRanges" Rows.laid_unicode_utf8_acceptRanges) : Lib.Utf8Tabs 0 1 W := by
  have h3 : VarReads Tryz.prog W "unicode/utf8.first" (tabData .u8 firstTab) := first_eq ▸ g3
  have h4 : VarReads Tryz.prog W "unicode/utf8.acceptRanges" acceptData := acc_eq ▸ g4
  refine ⟨fun c hc => ?_, fun i hi => ?_⟩
  · obtain ⟨g, t, cs, fuel, p, hg, hty, hvar, hd⟩ := h3
    obtain rfl := Option.some.inj (gFirst.symm.trans hg)
    obtain rfl := Option.some.inj (gFirstType.symm.trans hty)
    have hcs := cells_of_tab Tryz.underlying117 Tryz.underlying5 cells5 cells71 hd
    have := World.var?_cell hg hvar c
    rw [this, ← Array.getElem?_toList, hcs]
    simp [firstTab, hc]
  · obtain ⟨g, t, cs, fuel, p, hg, hty, hvar, hd⟩ := h4
    obtain rfl := Option.some.inj (gAcc.symm.trans hg)
    obtain rfl := Option.some.inj (gAccType.symm.trans hty)
    obtain ⟨fuel', d, q, hdi, he⟩ := array_elem Tryz.underlying120 hd i hi
    simp only [List.getElem?_map, List.getElem?_range hi, Option.map_some, Option.some.injEq] at hdi
    subst hdi
    rw [cells73] at he
    have hcs := ints_of_struct Tryz.underlying119 (fun j f hj => by
      match j, hj with
      | 0, hj => simp at hj; subst hj; exact ⟨Tryz.underlying5, rfl, cells5⟩
      | 1, hj => simp at hj; subst hj; exact ⟨Tryz.underlying5, rfl, cells5⟩
      | j + 2, hj => simp at hj) (by rw [cells73]; rfl) he
    have e0 := congrArg (·[0]?) hcs
    have e1 := congrArg (·[1]?) hcs
    simp only [List.getElem?_take, List.getElem?_drop] at e0 e1
    constructor
    · rw [World.var?_cell hg hvar (2 * i), ← Array.getElem?_toList]
      simpa [Nat.mul_comm] using e0
    · rw [World.var?_cell hg hvar (2 * i + 1), ← Array.getElem?_toList]
      simpa [Nat.mul_comm] using e1

end Go.Proofs.YtfbhpmafjehojaaGreatDoor.U1

namespace Go.Proofs.YtfbhpmafjehojaaGreatDoor
open Go.ChangeShapes Go.WideShapes Go.ChangeAt Go.RowKit
set_option maxRecDepth 100000

theorem own : ownKnob Tryz.prog.godebug = none := by kernel_rfl
theorem laidOut : laidOutB Tryz.prog = true := by kernel_rfl
theorem maxIn_of {W : World} (h : W.ShapedOpen Tryz.prog) : MaxIn W :=
  cell_of_shapedOpen_int (zero := #[.int .i64 0]) (t := 3) h (of_decide_eq_true (by kernel_rfl)) (by kernel_rfl) rfl (by kernel_rfl) (by kernel_rfl) Tryz.underlying3
def lists : List (String × DataW Unit) := [("math/bits.deBruijn32tab", Rows.laid_math_bits_deBruijn32tab), ("math/bits.deBruijn64tab", Rows.laid_math_bits_deBruijn64tab), ("internal/strconv.uint64pow10", Rows.laid_internal_strconv_uint64pow10), ("unicode/utf8.acceptRanges", Rows.laid_unicode_utf8_acceptRanges), ("strconv.ErrRange", Rows.laid_strconv_ErrRange), ("strconv.ErrSyntax", Rows.laid_strconv_ErrSyntax), ("pounce/entity.signs", Rows.laid_pounce_entity_signs), ("unicode/utf8.first", Rows.laid_unicode_utf8_first)]
theorem gSyn : Tryz.prog.globalNamed "strconv.ErrSyntax" = some 4 := by kernel_rfl
theorem tSyn : (Tryz.prog.globals[4]?).map (·.type) = some 95 := by kernel_rfl
/-- An error's variable that reads as listed holds an interface's value. -/
theorem errVar_of {W : World} {n : String} {nm : String} {d : DataW Unit} {g : Nat} (hn : Tryz.prog.globalNamed n = some g) (ht : (Tryz.prog.globals[g]?).map (·.type) = some 95) (h : Lib.VarReads Tryz.prog W n (.iface nm d)) : ∃ v, W.cell? ⟨g, 0, none⟩ = some v ∧ IfaceV v := by
  obtain ⟨g', t, cs, fuel, p, hg, hty, hvar, hd⟩ := h
  obtain rfl := Option.some.inj (hn.symm.trans hg)
  obtain rfl := Option.some.inj (ht.symm.trans hty)
  obtain ⟨f1, u, v, hcs, _, _⟩ := iface_of_trod Tryz.underlying95 hd
  have hc := World.var?_cell hg hvar 0
  rw [← Array.getElem?_toList, hcs] at hc
  exact ⟨_, hc, .inr ⟨u, v, rfl⟩⟩
theorem gSig : Tryz.prog.globalNamed "pounce/entity.signs" = some 3 := by kernel_rfl
theorem tSig : (Tryz.prog.globals[3]?).map (·.type) = some 174 := by kernel_rfl
theorem cellsSig : Tryz.prog.cellsOf 173 = 3 := by kernel_rfl
/-- A struct of two texts and a bool that reads as these holds them. -/
theorem sign_of {H : Type} {enc : TypeId × Value → H} {P : Program} {w : World} {base : Nat} {sp : Nat → Bool} {held : Bool} {fuel : Nat} {t : TypeId} {f0 f1 f2 : Field} {cs : List Value} {x y : List UInt8} {z : Bool} {p : List MemPlace} (ht : P.underlying t = some (.struct #[f0, f1, f2])) (h0 : P.underlying f0.type = some .string ∧ f0.offset = 0 ∧ P.cellsOf f0.type = 1) (h1 : P.underlying f1.type = some .string ∧ f1.offset = 1 ∧ P.cellsOf f1.type = 1) (h2 : P.underlying f2.type = some .bool ∧ f2.offset = 2 ∧ P.cellsOf f2.type = 1)
    (h : DataW.trod enc P w base sp held fuel t cs = some (.agg [.lit (.string x), .lit (.string y), .lit (.bool z)], p)) : cs[0]? = some (.string ⟨x.toArray⟩) ∧ cs[1]? = some (.string ⟨y.toArray⟩) ∧ cs[2]? = some (.bool z) := by
  obtain ⟨xs, n, rfl, hx, hl, hxl, hall⟩ := DataW.trod_struct ht h
  have hxs : xs.map (·.1) = [.lit (.string x), .lit (.string y), .lit (.bool z)] := by
    have := congrArg Prod.fst hx
    simpa using this.symm
  obtain ⟨y0, y1, y2, rfl⟩ : ∃ y0 y1 y2, xs = [y0, y1, y2] := by
    match xs, hxl with
    | [y0, y1, y2], _ => exact ⟨y0, y1, y2, rfl⟩
  simp only [List.map_cons, List.map_nil, List.cons.injEq, and_true] at hxs
  have k0 := hall 0 f0 rfl
  have k1 := hall 1 f1 rfl
  have k2 := hall 2 f2 rfl
  rw [h0.2.1, h0.2.2] at k0
  rw [h1.2.1, h1.2.2] at k1
  rw [h2.2.1, h2.2.2] at k2
  obtain ⟨s, e0, e1, _⟩ := DataW.trod_string h0.1 k0
  obtain ⟨u, e2, e3, _⟩ := DataW.trod_string h1.1 k1
  obtain ⟨b, e4, e5⟩ := DataW.trod_bool h2.1 k2
  have q0 := hxs.1
  have q1 := hxs.2.1
  have q2 := hxs.2.2
  have r0 := congrArg (·[0]?) e0
  have r1 := congrArg (·[0]?) e2
  have r2 := congrArg (·[0]?) e4
  subst e1; subst e3; subst e5
  simp only [List.getElem?_take, List.getElem?_drop] at r0 r1 r2
  simp only [DataW.lit.injEq, Lit.string.injEq] at q0 q1
  simp only [DataW.lit.injEq, Lit.bool.injEq] at q2
  refine ⟨?_, ?_, ?_⟩
  · rw [← q0, ← text_is (T := s) rfl]
    simpa using r0
  · rw [← q1, ← text_is (T := u) rfl]
    simpa using r1
  · rw [← q2]
    simpa using r2
theorem signsIn_of {W : World} (h : laidMet Tryz.prog lists W) : SignsIn W := by
  have h3 : Lib.VarReads Tryz.prog W "pounce/entity.signs" Rows.laid_pounce_entity_signs := Lib.laidMet.reads h (by simp [lists])
  obtain ⟨g, t, cs, fuel, p, hg, hty, hvar, hd⟩ := h3
  obtain rfl := Option.some.inj (gSig.symm.trans hg)
  obtain rfl := Option.some.inj (tSig.symm.trans hty)
  have hat : ∀ i, i < 10 → ∀ e, tabM[i]? = some e → W.cell? ⟨3, 3 * i, none⟩ = some (.string ⟨e.1.toArray⟩) ∧ W.cell? ⟨3, 3 * i + 1, none⟩ = some (.string ⟨e.2.1.toArray⟩) ∧ W.cell? ⟨3, 3 * i + 2, none⟩ = some (.bool e.2.2) := by
    intro i hi e he
    obtain ⟨fuel', d, q, hdi, hel⟩ := Lib.array_elem Tryz.underlying174 hd i hi
    have hd2 : d = .agg [.lit (.string e.1), .lit (.string e.2.1), .lit (.bool e.2.2)] := by
      obtain rfl | rfl | rfl | rfl | rfl | rfl | rfl | rfl | rfl | rfl : i = 0 ∨ i = 1 ∨ i = 2 ∨ i = 3 ∨ i = 4 ∨ i = 5 ∨ i = 6 ∨ i = 7 ∨ i = 8 ∨ i = 9 := by omega
      all_goals (obtain rfl := Option.some.inj he; exact (Option.some.inj hdi).symm)
    subst hd2
    rw [cellsSig] at hel
    obtain ⟨e0, e1, e2⟩ := sign_of Tryz.underlying173 ⟨Tryz.underlying9, rfl, by kernel_rfl⟩ ⟨Tryz.underlying9, rfl, by kernel_rfl⟩ ⟨Tryz.underlying4, rfl, by kernel_rfl⟩ hel
    simp only [List.getElem?_take, List.getElem?_drop] at e0 e1 e2
    refine ⟨?_, ?_, ?_⟩
    · rw [World.var?_cell hg hvar (3 * i), ← Array.getElem?_toList]
      simpa [Nat.mul_comm] using e0
    · rw [World.var?_cell hg hvar (3 * i + 1), ← Array.getElem?_toList]
      simpa [Nat.mul_comm] using e1
    · rw [World.var?_cell hg hvar (3 * i + 2), ← Array.getElem?_toList]
      simpa [Nat.mul_comm] using e2
  intro j hj
  have h2 := hat (j / 3) (by omega)
  obtain rfl | rfl | rfl | rfl | rfl | rfl | rfl | rfl | rfl | rfl | rfl | rfl | rfl | rfl | rfl | rfl | rfl | rfl | rfl | rfl | rfl | rfl | rfl | rfl | rfl | rfl | rfl | rfl | rfl | rfl : j = 0 ∨ j = 1 ∨ j = 2 ∨ j = 3 ∨ j = 4 ∨ j = 5 ∨ j = 6 ∨ j = 7 ∨ j = 8 ∨ j = 9 ∨ j = 10 ∨ j = 11 ∨ j = 12 ∨ j = 13 ∨ j = 14 ∨ j = 15 ∨ j = 16 ∨ j = 17 ∨ j = 18 ∨ j = 19 ∨ j = 20 ∨ j = 21 ∨ j = 22 ∨ j = 23 ∨ j = 24 ∨ j = 25 ∨ j = 26 ∨ j = 27 ∨ j = 28 ∨ j = 29 := by omega
  all_goals first | exact (h2 _ rfl).1 | exact (h2 _ rfl).2.1 | exact (h2 _ rfl).2.2
theorem low_of {W : World} (hL : laidMet Tryz.prog lists W) (hS : W.ShapedOpen Tryz.prog) : Low W :=
  ⟨maxIn_of hS, signsIn_of hL, errVar_of gSyn tSyn (Lib.laidMet.reads hL (n := "strconv.ErrSyntax") (d := Rows.laid_strconv_ErrSyntax) (by simp [lists]))⟩
theorem lw_of {W : World} (hL : laidMet Tryz.prog lists W) (hS : W.ShapedOpen Tryz.prog) : U1.Lw W :=
  ⟨low_of hL hS, U1.tabs_of_reads (Lib.laidMet.reads hL (by simp [lists])) (Lib.laidMet.reads hL (by simp [lists]))⟩
/-- Bytes that came in, and that their slice's capacity is no smaller than its length. -/
def ArgB (W : World) (v : Value) (l : List UInt8) : Prop := U1.BytesIn W v l ∧ ∀ a c, v = .slice a l.length c → l.length ≤ c
theorem arg_bytes {H : Type} {enc : TypeId × Value → H} {W : World} {v : Value} {d : DataW H} {p : List MemPlace} {base : Nat} (hok : Value.okWide Tryz.prog W .any base 22 v) (hj : DataW.Trod enc Tryz.prog W 0 (fun _ => true) true 22 v d p) : ∃ l, ArgB W v l := by
  obtain ⟨a0, len0, cap0, rfl⟩ := okWide_slice Tryz.underlying22 hok
  obtain ⟨fuel, hf⟩ := hj
  rcases open_ints Tryz.underlying22 Tryz.underlying5 (by kernel_rfl) hf with ⟨hcs, _⟩ | ⟨x, l, c, zs, hcs, _, hl, hm, hz, _, hcell, hwz⟩
  · simp [Value.cells] at hcs
    obtain ⟨rfl, rfl, rfl⟩ := hcs
    exact ⟨[], .inl ⟨⟨_, _, rfl⟩, rfl⟩, fun a c _ => Nat.zero_le _⟩
  · simp [Value.cells] at hcs
    obtain ⟨rfl, rfl, rfl⟩ := hcs
    obtain ⟨l', e, h⟩ := U1.open_bytes hl (by simpa using hz) hcell hwz
    refine ⟨l', h, fun a c e2 => ?_⟩
    cases e2
    omega
theorem arg_ints {H : Type} {enc : TypeId × Value → H} {W : World} {v : Value} {d : DataW H} {p : List MemPlace} {base : Nat} (hok : Value.okWide Tryz.prog W .any base 33 v) (hj : DataW.Trod enc Tryz.prog W 0 (fun _ => true) true 33 v d p) : ∃ q, U1.IntsIn W v q := U1.arg_ints hok hj
theorem arg_int {H : Type} {enc : TypeId × Value → H} {W : World} {v : Value} {d : DataW H} {p : List MemPlace} {base : Nat} (hok : Value.okWide Tryz.prog W .any base 3 v) (hj : DataW.Trod enc Tryz.prog W 0 (fun _ => true) true 3 v d p) : ∃ n : Int, v = .int .i64 n := by
  obtain ⟨n, rfl, _, _, hw⟩ := open_int Tryz.underlying3 hok hj
  exact ⟨n, rfl⟩

/-- A WORLD FOR THE WITNESS: the settled one, the tables holding what their texts lay, the two errors' texts in blocks behind. -/
def setC (C : Array Value) : Obj → Obj
  | .cells _ t frozen => .cells C t frozen
  | o => o
def tab32 : List Nat := [0, 1, 28, 2, 29, 14, 24, 3, 30, 22, 20, 15, 25, 17, 4, 8, 31, 27, 13, 23, 21, 19, 16, 7, 26, 12, 18, 6, 11, 5, 10, 9]
def tab64 : List Nat := [0, 1, 56, 2, 57, 49, 28, 3, 61, 58, 42, 50, 38, 29, 17, 4, 62, 47, 59, 36, 45, 43, 51, 22, 53, 39, 33, 30, 24, 18, 12, 5, 63, 55, 48, 27, 60, 41, 37, 16, 46, 35, 44, 21, 52, 32, 23, 11, 54, 26, 40, 15, 34, 20, 31, 10, 25, 14, 19, 9, 13, 8, 7, 6]
def synS : ByteArray := ⟨#[105, 110, 118, 97, 108, 105, 100, 32, 115, 121, 110, 116, 97, 120]⟩
def rngS : ByteArray := ⟨#[118, 97, 108, 117, 101, 32, 111, 117, 116, 32, 111, 102, 32, 114, 97, 110, 103, 101]⟩
noncomputable def low0 : Nat := (World.holding Tryz.prog default ⟨#[], #[], []⟩).heap.size
noncomputable def laidWorld (os : Os) : World :=
  { World.holding Tryz.prog os ⟨#[.cells #[.string synS] 190, .cells #[.string rngS] 190], #[], []⟩ with heap := ((((((((World.holding Tryz.prog os ⟨#[.cells #[.string synS] 190, .cells #[.string rngS] 190], #[], []⟩).heap.modify 0 (setC (Go.Pinned.utf8FirstZ.map fun (n : Nat) => Value.int .u8 n).toArray)).modify 1 (setC ((List.range 16).flatMap fun i => [Value.int .u8 (Lib.accLo i), Value.int .u8 (Lib.accHi i)]).toArray)).modify 6 (setC (Lib.pow10Tab.map fun (z : Int) => Value.int .u64 z).toArray)).modify 7 (setC (tab32.map fun (n : Nat) => Value.int .u8 n).toArray)).modify 8 (setC (tab64.map fun (n : Nat) => Value.int .u8 n).toArray)).modify 3 (setC SL.toArray)).modify 4 (setC #[.iface 188 (.pointer (some ⟨low0, 0, none⟩))])).modify 5 (setC #[.iface 188 (.pointer (some ⟨low0 + 1, 0, none⟩))]) }

end Go.Proofs.YtfbhpmafjehojaaGreatDoor
