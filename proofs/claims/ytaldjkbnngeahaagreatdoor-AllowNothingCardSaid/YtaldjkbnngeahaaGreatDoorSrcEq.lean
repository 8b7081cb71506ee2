/- Two sources compared. -/
import Derived.Test.YtaldjkbnngeahaaGreatDoorSrcC
import Derived.Laws.StructEq
namespace Go.Proofs.YtaldjkbnngeahaaGreatDoor
open Go.RowKit

theorem bytes_eq (s t : ByteArray) : (s.toList == t.toList) = decide (s = t) := by
  rw [text_eq, Bool.eq_iff_iff, decide_eq_true_eq, decide_eq_true_eq]
  exact ⟨fun e => by rw [text_is e], fun e => by rw [e]⟩
def srcE (k : Int) (t s h : ByteArray) (b : Bool) (p : Int) (pa : ByteArray) (k' : Int) (t' s' h' : ByteArray) (b' : Bool) (p' : Int) (pa' : ByteArray) : Bool :=
  (k == k') && (t.toList == t'.toList) && (s.toList == s'.toList) && (h.toList == h'.toList) && (b == b') && (p == p') && (pa.toList == pa'.toList)
set_option maxRecDepth 100000 in
set_option maxHeartbeats 4000000 in
theorem src_eql (k : Int) (t s h : ByteArray) (b : Bool) (p : Int) (pa : ByteArray) (k' : Int) (t' s' h' : ByteArray) (b' : Bool) (p' : Int) (pa' : ByteArray) (W : World) :
    (Go.binOp .eql 40 (.agg #[.int .i64 k, .string t, .string s, .string h, .bool b, .int .i64 p, .string pa]) (.agg #[.int .i64 k', .string t', .string s', .string h', .bool b', .int .i64 p', .string pa'])).run Tryz.prog W = .ok (.bool (srcE k t s h b p pa k' t' s' h' b' p' pa')) W := by
  unfold srcE
  generalize h1 : (t.toList == t'.toList) = x1
  generalize h2 : (s.toList == s'.toList) = x2
  generalize h3 : (h.toList == h'.toList) = x3
  generalize h4 : (pa.toList == pa'.toList) = x4
  generalize h5 : (k == k') = x5
  generalize h6 : (p == p') = x6
  generalize h7 : (b == b') = x7
  cases x5
  · simp [go_sem, h1, h2, h3, h4, h5, h6, h7]
  cases x1
  · simp [go_sem, h1, h2, h3, h4, h5, h6, h7]
  cases x2
  · simp [go_sem, h1, h2, h3, h4, h5, h6, h7]
  cases x3
  · simp [go_sem, h1, h2, h3, h4, h5, h6, h7]
  cases x7
  · simp [go_sem, h1, h2, h3, h4, h5, h6, h7]
  cases x6
  · simp [go_sem, h1, h2, h3, h4, h5, h6, h7]
  cases x4
  · simp [go_sem, h1, h2, h3, h4, h5, h6, h7]
  simp [go_sem, h1, h2, h3, h4, h5, h6, h7]

end Go.Proofs.YtaldjkbnngeahaaGreatDoor
