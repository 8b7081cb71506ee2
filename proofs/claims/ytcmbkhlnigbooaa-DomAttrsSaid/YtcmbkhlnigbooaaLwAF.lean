/- Documents that can be read, and the program's functions over them. The document's own over documents that can be read; variables, and regions that draw their order. -/
import Derived.BigRegion
import Derived.Test.YtcmbkhlnigbooaaDoP
import Derived.Test.YtcmbkhlnigbooaaPdJL
import Derived.Test.YtcmbkhlnigbooaaPdZ
import Derived.Test.YtcmbkhlnigbooaaPeA
import Derived.Test.YtcmbkhlnigbooaaPeD
namespace Go.Proofs.Ytcmbkhlnigbooaa.Dm
open Go.RowKit

/-- A document that can be read, its rows with room for what they hold. -/
def DocG (w : World) (sl : Value) (D : List Nd) : Prop := ∃ A K, DocIn w sl D A K ∧ Capd D A
theorem DocG.below {w w' : World} {sl : Value} {D : List Nd} (h : DocG w sl D) (b : Below w.heap.size w w') : DocG w' sl D := by
  obtain ⟨A, K, h1, h2⟩ := h
  exact ⟨A, K, h1.below b, h2⟩
theorem DocG.form {w : World} {sl : Value} {D : List Nd} (h : DocG w sl D) : ∃ a c, sl = .slice a D.length c := by
  obtain ⟨A, K, h1, h2⟩ := h
  exact h1.form
theorem OwnX.g {w : World} {B : Nat} {sl : Value} {D : List Nd} (h : OwnX w B sl D) : DocG w sl D := by
  obtain ⟨A, K, h⟩ := h
  refine ⟨A, K, h.doc, fun i hi => ?_⟩
  obtain ⟨a, c, e⟩ := row_form (h.at' i hi)
  rw [e]
  have := h.at' i hi
  rw [e] at this
  exact cap_of this
/-- How a call ends that hands back a document, and a number. -/
def DocE (E : List Nd) (k : Int) (W : World) (e : Ending) (w' : World) : Prop := ∃ a c, e = .returned (.tuple #[.agg #[.slice a E.length c], .int .i64 k]) ∧ OwnX w' W.heap.size (.slice a E.length c) E ∧ Below W.heap.size W w'
def DocE2 (E : List Nd) (i k : Int) (W : World) (e : Ending) (w' : World) : Prop := ∃ a c, e = .returned (.tuple #[.agg #[.slice a E.length c], .int .i64 i, .int .i64 k]) ∧ OwnX w' W.heap.size (.slice a E.length c) E ∧ Below W.heap.size W w'
section
variable {D : List Nd} (hf : FitD D)
include hf
theorem gCheck : Hid (∀ W sl, DocG W sl D → Calls Try.prog 15 #[.agg #[sl]] W fun e w' => e = .returned (.int .i64 (checkM D)) ∧ Below W.heap.size W w') := Lib.hid fun W sl ⟨A, K, h, hc⟩ => (checkP_hid D hf).out W sl A K h hc
theorem gAttr (n : Int) (name : ByteArray) : Hid (∀ W sl, DocG W sl D → Calls Try.prog 13 #[.agg #[sl], .int .i64 n, .string name] W fun e w' => e = .returned (attrV (attrM D n name.data.toList)) ∧ Below W.heap.size W w') := Lib.hid fun W sl ⟨A, K, h, hc⟩ => (attrP_hid D hf n name).out W sl A K h hc
theorem gIn (n : Int) : Hid (∀ W sl, DocG W sl D → Calls Try.prog 23 #[.agg #[sl], .int .i64 n] W fun e w' => e = .returned (.bool (thereM D n && upM D 0 n.toNat)) ∧ Below W.heap.size W w') := Lib.hid fun W sl ⟨A, K, h, hc⟩ => (inP_hid D hf n).out W sl A K h hc
theorem gText (n : Int) : Hid (∀ W sl, DocG W sl D → Calls Try.prog 21 #[.agg #[sl], .int .i64 n] W fun e w' => e = .returned (strV (textsM D n)) ∧ Below W.heap.size W w') := Lib.hid fun W sl ⟨A, K, h, hc⟩ => (textP_hid D hf n).out W sl A K h hc
theorem gBelow (n : Int) : Hid (∀ W sl, DocG W sl D → Calls Try.prog 19 #[.agg #[sl], .int .i64 n] W fun e w' => ∃ v, e = .returned v ∧ OwnI w' W.heap.size v (belowM D n) ∧ Below W.heap.size W w') := Lib.hid fun W sl ⟨A, K, h, hc⟩ => (belowP_hid D hf n).out W sl A K h hc
theorem gPut (q n : Int) : Hid (∀ W sl, DocG W sl D → Calls Try.prog 32 #[.agg #[sl], .int .i64 q, .int .i64 n] W (DocE (putR D q n).1 (putR D q n).2 W)) := Lib.hid fun W sl ⟨A, K, h, hc⟩ => ((putP_hid D hf q n).out W sl A K h hc).mono fun e w' ⟨sl', h1, h2, h3⟩ => by
  obtain ⟨a, c, rfl⟩ := h2.form
  exact ⟨a, c, h1, h2, h3⟩
theorem gCut (n : Int) : Hid (∀ W sl, DocG W sl D → Calls Try.prog 34 #[.agg #[sl], .int .i64 n] W (DocE (cutR D n).1 (cutR D n).2 W)) := Lib.hid fun W sl ⟨A, K, h, hc⟩ => ((cutP_hid D hf n).out W sl A K h hc).mono fun e w' ⟨sl', h1, h2, h3⟩ => by
  obtain ⟨a, c, rfl⟩ := h2.form
  exact ⟨a, c, h1, h2, h3⟩
theorem gSet (n : Int) (nm vl : ByteArray) : Hid (∀ W sl, DocG W sl D → Calls Try.prog 36 #[.agg #[sl], .int .i64 n, .string nm, .string vl] W (DocE (setR D n nm.data.toList vl.data.toList).1 (setR D n nm.data.toList vl.data.toList).2 W)) := Lib.hid fun W sl ⟨A, K, h, hc⟩ => ((setP_hid D hf n nm vl).out W sl A K h hc).mono fun e w' ⟨sl', h1, h2, h3⟩ => by
  obtain ⟨a, c, rfl⟩ := h2.form
  exact ⟨a, c, h1, h2, h3⟩
theorem gMake (x : Nd) (hx : FitN x) : Hid (∀ W sl av kv, DocG W sl D → AtIn W av x.a → IntIn W kv x.c → Calls Try.prog 28 #[.agg #[sl], nodeV x av kv] W (DocE2 (makeR D x).1 (makeR D x).2.1 (makeR D x).2.2 W)) := Lib.hid fun W sl av kv ⟨A, K, h, hc⟩ ha hk => ((makeP_hid D hf x hx).out W sl A K av kv h hc ha hk).mono fun e w' ⟨sl', h1, h2, h3⟩ => by
  obtain ⟨a, c, rfl⟩ := h2.form
  exact ⟨a, c, h1, h2, h3⟩
theorem gSame : Hid (∀ W sl sl', DocG W sl D → DocG W sl' D → Calls Try.prog 25 #[.agg #[sl], .agg #[sl']] W fun e w' => e = .returned (.bool true) ∧ Below W.heap.size W w') := Lib.hid fun W sl sl' ⟨A, K, h, _⟩ ⟨A', K', h', _⟩ => (same_hid D hf).out W sl A K sl' A' K' h h'
end
/-- A variable that holds a document. -/
def VD (w : World) (R : Nat) (D : List Nd) : Prop := ∃ a c, w.heap[R]? = some (.cells #[.slice a D.length c] 24 (0, 0)) ∧ DocG w (.slice a D.length c) D
theorem VD.below {w w' : World} {R : Nat} {D : List Nd} (h : VD w R D) (b : Below w.heap.size w w') : VD w' R D := by
  obtain ⟨a, c, h1, h2⟩ := h
  exact ⟨a, c, (b.block _ (lt_of_block h1)).trans h1, h2.below b⟩
theorem VD.new {w : World} {a : Option Addr} {c : Nat} {D : List Nd} (h : DocG w (.slice a D.length c) D) : VD (w.alloc (.cells #[.slice a D.length c] 24)) w.heap.size D := ⟨a, c, new_block _ _, h.below ((Below.refl _ _).alloc (Nat.le_refl _) _)⟩

/-! ### documents that fit -/
theorem fit_nil : FitD [] := ⟨by simp, fun x h => by cases h⟩
theorem fit_new : FitD newM := ⟨by simp [newM], fun x h => by
  simp [newM] at h
  subst h
  exact ⟨by simp, by simp, by simp, by simp, fun y h => by simp at h⟩⟩

end Go.Proofs.Ytcmbkhlnigbooaa.Dm

namespace Go.Proofs.Ytcmbkhlnigbooaa.Dm
open Go.RowKit

theorem rCheck {D : List Nd} (hf : FitD D) : Hid (∀ W sl, DocG W sl D → Calls Try.prog 16 #[.agg #[sl]] W fun e w' => e = .returned (.int .i64 (checkM D)) ∧ Below W.heap.size W w') := Lib.hid fun W sl ⟨A, K, h, _⟩ => (check_hid D hf).out W sl A K h
theorem rAttr {D : List Nd} (hf : FitD D) (n : Int) (name : ByteArray) : Hid (∀ W sl, DocG W sl D → Calls Try.prog 14 #[.agg #[sl], .int .i64 n, .string name] W fun e w' => e = .returned (attrV (attrM D n name.data.toList)) ∧ Below W.heap.size W w') := Lib.hid fun W sl ⟨A, K, h, _⟩ => (attr_hid D hf n name).out W sl A K h
theorem rIn {D : List Nd} (hf : FitD D) (n : Int) : Hid (∀ W sl, DocG W sl D → Calls Try.prog 24 #[.agg #[sl], .int .i64 n] W fun e w' => e = .returned (.bool (thereM D n && upM D 0 n.toNat)) ∧ Below W.heap.size W w') := Lib.hid fun W sl ⟨A, K, h, _⟩ => (in_hid D hf n).out W sl A K h
theorem rText {D : List Nd} (hf : FitD D) (n : Int) : Hid (∀ W sl, DocG W sl D → Calls Try.prog 22 #[.agg #[sl], .int .i64 n] W fun e w' => e = .returned (strV (textsM D n)) ∧ Below W.heap.size W w') := Lib.hid fun W sl ⟨A, K, h, _⟩ => (text_hid D hf n).out W sl A K h
theorem rBelow {D : List Nd} (hf : FitD D) (n : Int) : Hid (∀ W sl, DocG W sl D → Calls Try.prog 20 #[.agg #[sl], .int .i64 n] W fun e w' => ∃ v, e = .returned v ∧ OwnI w' W.heap.size v (belowM D n) ∧ Below W.heap.size W w') := Lib.hid fun W sl ⟨A, K, h, _⟩ => (below_hid D hf n).out W sl A K h
/-- A variable that holds a document, its slice named. -/
def VX (w : World) (R : Nat) (a : Option Addr) (c : Nat) (D : List Nd) : Prop := w.heap[R]? = some (.cells #[.slice a D.length c] 24 (0, 0)) ∧ DocG w (.slice a D.length c) D
theorem VX.below {w w' : World} {R : Nat} {a : Option Addr} {c : Nat} {D : List Nd} (h : VX w R a c D) (b : Below w.heap.size w w') : VX w' R a c D := ⟨(b.block _ (lt_of_block h.1)).trans h.1, h.2.below b⟩
theorem VX.v {w : World} {R : Nat} {a : Option Addr} {c : Nat} {D : List Nd} (h : VX w R a c D) : VD w R D := ⟨a, c, h.1, h.2⟩
theorem VD.x {w : World} {R : Nat} {D : List Nd} (h : VD w R D) : ∃ a c, VX w R a c D := h
theorem VX.g {w : World} {R : Nat} {a : Option Addr} {c : Nat} {D : List Nd} (h : VX w R a c D) : DocG w (.slice a D.length c) D := h.2
theorem VX.c0 {w : World} {R : Nat} {a : Option Addr} {c : Nat} {D : List Nd} (h : VX w R a c D) : w.cell? ⟨R, 0, none⟩ = some (.slice a D.length c) := cell_of h.1 0
/-- A region that draws its order, walked once in the order of the text. -/
theorem region_class {P : Program} {id : Nat} {Q : Exit → Act → World → Prop} {a : Act} {w : World} {l : List Oper} (C : World → Prop) (hm : P.follows .mixedOrders = true) (hB : Region.lexB .any l.toArray = true) (hC : C w.drew)
    (h : wpQuiet P l.toArray C (fun a' => ∀ w', C w' → Q .normal a' w') l a) : (Code.region id l.toArray true).wp P Q a w :=
  wp_region_quiet (C := C) hm hB hC (by simpa using h)
theorem gOwn {D : List Nd} (hf : FitD D) : Hid (∀ W sl, DocG W sl D → Calls Try.prog 12 #[.agg #[sl]] W fun e w' => ∃ a c, e = .returned (.agg #[.slice a D.length c]) ∧ OwnX w' W.heap.size (.slice a D.length c) D ∧ Below W.heap.size W w') := Lib.hid fun W sl ⟨A, K, h, _⟩ => ((own_hid D hf).out W sl A K h).mono fun e w' ⟨sl', h1, h2, h3⟩ => by
  obtain ⟨a, c, rfl⟩ := h2.form
  exact ⟨a, c, h1, h2, h3⟩
theorem gInts {C : List Int} (hC : C.length ≤ 9223372036854775807) : Hid (∀ W u v, IntIn W u C → IntIn W v C → Calls Try.prog 18 #[u, v] W fun e w' => e = .returned (.bool true) ∧ Below W.heap.size W w') := Lib.hid fun W u v h1 h2 => (U1.ints_any C C u v W h1.u1 h2.u1 hC hC).mono fun e w' ⟨he, n, hw⟩ => ⟨by rw [he]; unfold U1.eqL; rw [decide_eq_true rfl], by rw [hw]; exact belowN (Below.refl _ _) n⟩
theorem belowM_len (D : List Nd) (n : Int) : (belowM D n).length ≤ 300 := by
  unfold belowM
  split
  · next h =>
    obtain ⟨R, i, rfl, hi⟩ := there_right h
    have h1 := down_len R hi
    have h2 := R.len
    rw [Int.toNat_natCast]
    omega
  · simp
theorem belowI_len (D : List Nd) (n : Int) : (natsI (belowM D n)).length ≤ 9223372036854775807 := by
  rw [natsI_length]
  have := belowM_len D n
  omega

end Go.Proofs.Ytcmbkhlnigbooaa.Dm
