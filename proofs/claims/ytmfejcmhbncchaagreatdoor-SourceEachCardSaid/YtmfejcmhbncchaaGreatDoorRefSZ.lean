/- A kept word's text: the document's. Is a source right: the document's. -/
import Derived.Test.YtmfejcmhbncchaaGreatDoorRefSB
import Derived.Test.YtmfejcmhbncchaaGreatDoorBaseI
namespace Go.Proofs.YtmfejcmhbncchaaGreatDoor
open Go.RowKit

set_option maxRecDepth 100000 in
set_option maxHeartbeats 8000000 in
theorem keptR_any (k : Int) (T : ByteArray) (hT : T.data.toList = keptM k) (w : World) : Calls Tryz.prog 38 #[.int .i64 k] w fun e w' => e = .returned (.string T) ∧ Below w.heap.size w w' := by
  have hT2 := text_is hT
  clear hT
  have xA := new_block w (.cells #[.string ⟨#[39, 110, 111, 110, 101, 39]⟩, .string ⟨#[39, 115, 101, 108, 102, 39]⟩, .string ⟨#[39, 117, 110, 115, 97, 102, 101, 45, 105, 110, 108, 105, 110, 101, 39]⟩, .string ⟨#[39, 117, 110, 115, 97, 102, 101, 45, 101, 118, 97, 108, 39]⟩, .string ⟨#[39, 119, 97, 115, 109, 45, 117, 110, 115, 97, 102, 101, 45, 101, 118, 97, 108, 39]⟩, .string ⟨#[39, 115, 116, 114, 105, 99, 116, 45, 100, 121, 110, 97, 109, 105, 99, 39]⟩, .string ⟨#[39, 117, 110, 115, 97, 102, 101, 45, 104, 97, 115, 104, 101, 115, 39]⟩, .string ⟨#[39, 114, 101, 112, 111, 114, 116, 45, 115, 97, 109, 112, 108, 101, 39]⟩] 9)
  have BB : Hid (Below w.heap.size w (w.alloc (.cells #[.string ⟨#[39, 110, 111, 110, 101, 39]⟩, .string ⟨#[39, 115, 101, 108, 102, 39]⟩, .string ⟨#[39, 117, 110, 115, 97, 102, 101, 45, 105, 110, 108, 105, 110, 101, 39]⟩, .string ⟨#[39, 117, 110, 115, 97, 102, 101, 45, 101, 118, 97, 108, 39]⟩, .string ⟨#[39, 119, 97, 115, 109, 45, 117, 110, 115, 97, 102, 101, 45, 101, 118, 97, 108, 39]⟩, .string ⟨#[39, 115, 116, 114, 105, 99, 116, 45, 100, 121, 110, 97, 109, 105, 99, 39]⟩, .string ⟨#[39, 117, 110, 115, 97, 102, 101, 45, 104, 97, 115, 104, 101, 115, 39]⟩, .string ⟨#[39, 114, 101, 112, 111, 114, 116, 45, 115, 97, 109, 112, 108, 101, 39]⟩] 9))) := Lib.hid ((Below.refl _ _).alloc (Nat.le_refl _) _)
  by_cases h1 : k < 1
  · have e : keptM k = [] := by unfold keptM; rw [if_neg (by omega)]
    rw [e] at hT2
    subst hT2
    clear xA e
    go_enter Tryz.func38, Tryz.ntmps38
    go_wp2
    go_ret
    exact ⟨rfl, BB.out⟩
  by_cases h2 : 8 < k
  · have e : keptM k = [] := by unfold keptM; rw [if_neg (by omega)]
    rw [e] at hT2
    subst hT2
    clear xA e
    go_enter Tryz.func38, Tryz.ntmps38
    go_wp2
    go_ret
    exact ⟨rfl, BB.out⟩
  have hc : k = 1 ∨ k = 2 ∨ k = 3 ∨ k = 4 ∨ k = 5 ∨ k = 6 ∨ k = 7 ∨ k = 8 := by omega
  clear h1 h2
  rcases hc with rfl | rfl | rfl | rfl | rfl | rfl | rfl | rfl
  · have e : keptM 1 = [39, 110, 111, 110, 101, 39] := by decide
    rw [e] at hT2
    have cx : (w.alloc (.cells #[.string ⟨#[39, 110, 111, 110, 101, 39]⟩, .string ⟨#[39, 115, 101, 108, 102, 39]⟩, .string ⟨#[39, 117, 110, 115, 97, 102, 101, 45, 105, 110, 108, 105, 110, 101, 39]⟩, .string ⟨#[39, 117, 110, 115, 97, 102, 101, 45, 101, 118, 97, 108, 39]⟩, .string ⟨#[39, 119, 97, 115, 109, 45, 117, 110, 115, 97, 102, 101, 45, 101, 118, 97, 108, 39]⟩, .string ⟨#[39, 115, 116, 114, 105, 99, 116, 45, 100, 121, 110, 97, 109, 105, 99, 39]⟩, .string ⟨#[39, 117, 110, 115, 97, 102, 101, 45, 104, 97, 115, 104, 101, 115, 39]⟩, .string ⟨#[39, 114, 101, 112, 111, 114, 116, 45, 115, 97, 109, 112, 108, 101, 39]⟩] 9)).cell? ⟨w.heap.size, 0, none⟩ = some (.string ⟨#[39, 110, 111, 110, 101, 39]⟩) := by rw [cell_of xA]; rfl
    subst hT2
    clear xA e
    go_enter Tryz.func38, Tryz.ntmps38
    go_wp2
    go_ret
    exact ⟨rfl, BB.out⟩
  · have e : keptM 2 = [39, 115, 101, 108, 102, 39] := by decide
    rw [e] at hT2
    have cx : (w.alloc (.cells #[.string ⟨#[39, 110, 111, 110, 101, 39]⟩, .string ⟨#[39, 115, 101, 108, 102, 39]⟩, .string ⟨#[39, 117, 110, 115, 97, 102, 101, 45, 105, 110, 108, 105, 110, 101, 39]⟩, .string ⟨#[39, 117, 110, 115, 97, 102, 101, 45, 101, 118, 97, 108, 39]⟩, .string ⟨#[39, 119, 97, 115, 109, 45, 117, 110, 115, 97, 102, 101, 45, 101, 118, 97, 108, 39]⟩, .string ⟨#[39, 115, 116, 114, 105, 99, 116, 45, 100, 121, 110, 97, 109, 105, 99, 39]⟩, .string ⟨#[39, 117, 110, 115, 97, 102, 101, 45, 104, 97, 115, 104, 101, 115, 39]⟩, .string ⟨#[39, 114, 101, 112, 111, 114, 116, 45, 115, 97, 109, 112, 108, 101, 39]⟩] 9)).cell? ⟨w.heap.size, 1, none⟩ = some (.string ⟨#[39, 115, 101, 108, 102, 39]⟩) := by rw [cell_of xA]; rfl
    subst hT2
    clear xA e
    go_enter Tryz.func38, Tryz.ntmps38
    go_wp2
    go_ret
    exact ⟨rfl, BB.out⟩
  · have e : keptM 3 = [39, 117, 110, 115, 97, 102, 101, 45, 105, 110, 108, 105, 110, 101, 39] := by decide
    rw [e] at hT2
    have cx : (w.alloc (.cells #[.string ⟨#[39, 110, 111, 110, 101, 39]⟩, .string ⟨#[39, 115, 101, 108, 102, 39]⟩, .string ⟨#[39, 117, 110, 115, 97, 102, 101, 45, 105, 110, 108, 105, 110, 101, 39]⟩, .string ⟨#[39, 117, 110, 115, 97, 102, 101, 45, 101, 118, 97, 108, 39]⟩, .string ⟨#[39, 119, 97, 115, 109, 45, 117, 110, 115, 97, 102, 101, 45, 101, 118, 97, 108, 39]⟩, .string ⟨#[39, 115, 116, 114, 105, 99, 116, 45, 100, 121, 110, 97, 109, 105, 99, 39]⟩, .string ⟨#[39, 117, 110, 115, 97, 102, 101, 45, 104, 97, 115, 104, 101, 115, 39]⟩, .string ⟨#[39, 114, 101, 112, 111, 114, 116, 45, 115, 97, 109, 112, 108, 101, 39]⟩] 9)).cell? ⟨w.heap.size, 2, none⟩ = some (.string ⟨#[39, 117, 110, 115, 97, 102, 101, 45, 105, 110, 108, 105, 110, 101, 39]⟩) := by rw [cell_of xA]; rfl
    subst hT2
    clear xA e
    go_enter Tryz.func38, Tryz.ntmps38
    go_wp2
    go_ret
    exact ⟨rfl, BB.out⟩
  · have e : keptM 4 = [39, 117, 110, 115, 97, 102, 101, 45, 101, 118, 97, 108, 39] := by decide
    rw [e] at hT2
    have cx : (w.alloc (.cells #[.string ⟨#[39, 110, 111, 110, 101, 39]⟩, .string ⟨#[39, 115, 101, 108, 102, 39]⟩, .string ⟨#[39, 117, 110, 115, 97, 102, 101, 45, 105, 110, 108, 105, 110, 101, 39]⟩, .string ⟨#[39, 117, 110, 115, 97, 102, 101, 45, 101, 118, 97, 108, 39]⟩, .string ⟨#[39, 119, 97, 115, 109, 45, 117, 110, 115, 97, 102, 101, 45, 101, 118, 97, 108, 39]⟩, .string ⟨#[39, 115, 116, 114, 105, 99, 116, 45, 100, 121, 110, 97, 109, 105, 99, 39]⟩, .string ⟨#[39, 117, 110, 115, 97, 102, 101, 45, 104, 97, 115, 104, 101, 115, 39]⟩, .string ⟨#[39, 114, 101, 112, 111, 114, 116, 45, 115, 97, 109, 112, 108, 101, 39]⟩] 9)).cell? ⟨w.heap.size, 3, none⟩ = some (.string ⟨#[39, 117, 110, 115, 97, 102, 101, 45, 101, 118, 97, 108, 39]⟩) := by rw [cell_of xA]; rfl
    subst hT2
    clear xA e
    go_enter Tryz.func38, Tryz.ntmps38
    go_wp2
    go_ret
    exact ⟨rfl, BB.out⟩
  · have e : keptM 5 = [39, 119, 97, 115, 109, 45, 117, 110, 115, 97, 102, 101, 45, 101, 118, 97, 108, 39] := by decide
    rw [e] at hT2
    have cx : (w.alloc (.cells #[.string ⟨#[39, 110, 111, 110, 101, 39]⟩, .string ⟨#[39, 115, 101, 108, 102, 39]⟩, .string ⟨#[39, 117, 110, 115, 97, 102, 101, 45, 105, 110, 108, 105, 110, 101, 39]⟩, .string ⟨#[39, 117, 110, 115, 97, 102, 101, 45, 101, 118, 97, 108, 39]⟩, .string ⟨#[39, 119, 97, 115, 109, 45, 117, 110, 115, 97, 102, 101, 45, 101, 118, 97, 108, 39]⟩, .string ⟨#[39, 115, 116, 114, 105, 99, 116, 45, 100, 121, 110, 97, 109, 105, 99, 39]⟩, .string ⟨#[39, 117, 110, 115, 97, 102, 101, 45, 104, 97, 115, 104, 101, 115, 39]⟩, .string ⟨#[39, 114, 101, 112, 111, 114, 116, 45, 115, 97, 109, 112, 108, 101, 39]⟩] 9)).cell? ⟨w.heap.size, 4, none⟩ = some (.string ⟨#[39, 119, 97, 115, 109, 45, 117, 110, 115, 97, 102, 101, 45, 101, 118, 97, 108, 39]⟩) := by rw [cell_of xA]; rfl
    subst hT2
    clear xA e
    go_enter Tryz.func38, Tryz.ntmps38
    go_wp2
    go_ret
    exact ⟨rfl, BB.out⟩
  · have e : keptM 6 = [39, 115, 116, 114, 105, 99, 116, 45, 100, 121, 110, 97, 109, 105, 99, 39] := by decide
    rw [e] at hT2
    have cx : (w.alloc (.cells #[.string ⟨#[39, 110, 111, 110, 101, 39]⟩, .string ⟨#[39, 115, 101, 108, 102, 39]⟩, .string ⟨#[39, 117, 110, 115, 97, 102, 101, 45, 105, 110, 108, 105, 110, 101, 39]⟩, .string ⟨#[39, 117, 110, 115, 97, 102, 101, 45, 101, 118, 97, 108, 39]⟩, .string ⟨#[39, 119, 97, 115, 109, 45, 117, 110, 115, 97, 102, 101, 45, 101, 118, 97, 108, 39]⟩, .string ⟨#[39, 115, 116, 114, 105, 99, 116, 45, 100, 121, 110, 97, 109, 105, 99, 39]⟩, .string ⟨#[39, 117, 110, 115, 97, 102, 101, 45, 104, 97, 115, 104, 101, 115, 39]⟩, .string ⟨#[39, 114, 101, 112, 111, 114, 116, 45, 115, 97, 109, 112, 108, 101, 39]⟩] 9)).cell? ⟨w.heap.size, 5, none⟩ = some (.string ⟨#[39, 115, 116, 114, 105, 99, 116, 45, 100, 121, 110, 97, 109, 105, 99, 39]⟩) := by rw [cell_of xA]; rfl
    subst hT2
    clear xA e
    go_enter Tryz.func38, Tryz.ntmps38
    go_wp2
    go_ret
    exact ⟨rfl, BB.out⟩
  · have e : keptM 7 = [39, 117, 110, 115, 97, 102, 101, 45, 104, 97, 115, 104, 101, 115, 39] := by decide
    rw [e] at hT2
    have cx : (w.alloc (.cells #[.string ⟨#[39, 110, 111, 110, 101, 39]⟩, .string ⟨#[39, 115, 101, 108, 102, 39]⟩, .string ⟨#[39, 117, 110, 115, 97, 102, 101, 45, 105, 110, 108, 105, 110, 101, 39]⟩, .string ⟨#[39, 117, 110, 115, 97, 102, 101, 45, 101, 118, 97, 108, 39]⟩, .string ⟨#[39, 119, 97, 115, 109, 45, 117, 110, 115, 97, 102, 101, 45, 101, 118, 97, 108, 39]⟩, .string ⟨#[39, 115, 116, 114, 105, 99, 116, 45, 100, 121, 110, 97, 109, 105, 99, 39]⟩, .string ⟨#[39, 117, 110, 115, 97, 102, 101, 45, 104, 97, 115, 104, 101, 115, 39]⟩, .string ⟨#[39, 114, 101, 112, 111, 114, 116, 45, 115, 97, 109, 112, 108, 101, 39]⟩] 9)).cell? ⟨w.heap.size, 6, none⟩ = some (.string ⟨#[39, 117, 110, 115, 97, 102, 101, 45, 104, 97, 115, 104, 101, 115, 39]⟩) := by rw [cell_of xA]; rfl
    subst hT2
    clear xA e
    go_enter Tryz.func38, Tryz.ntmps38
    go_wp2
    go_ret
    exact ⟨rfl, BB.out⟩
  · have e : keptM 8 = [39, 114, 101, 112, 111, 114, 116, 45, 115, 97, 109, 112, 108, 101, 39] := by decide
    rw [e] at hT2
    have cx : (w.alloc (.cells #[.string ⟨#[39, 110, 111, 110, 101, 39]⟩, .string ⟨#[39, 115, 101, 108, 102, 39]⟩, .string ⟨#[39, 117, 110, 115, 97, 102, 101, 45, 105, 110, 108, 105, 110, 101, 39]⟩, .string ⟨#[39, 117, 110, 115, 97, 102, 101, 45, 101, 118, 97, 108, 39]⟩, .string ⟨#[39, 119, 97, 115, 109, 45, 117, 110, 115, 97, 102, 101, 45, 101, 118, 97, 108, 39]⟩, .string ⟨#[39, 115, 116, 114, 105, 99, 116, 45, 100, 121, 110, 97, 109, 105, 99, 39]⟩, .string ⟨#[39, 117, 110, 115, 97, 102, 101, 45, 104, 97, 115, 104, 101, 115, 39]⟩, .string ⟨#[39, 114, 101, 112, 111, 114, 116, 45, 115, 97, 109, 112, 108, 101, 39]⟩] 9)).cell? ⟨w.heap.size, 7, none⟩ = some (.string ⟨#[39, 114, 101, 112, 111, 114, 116, 45, 115, 97, 109, 112, 108, 101, 39]⟩) := by rw [cell_of xA]; rfl
    subst hT2
    clear xA e
    go_enter Tryz.func38, Tryz.ntmps38
    go_wp2
    go_ret
    exact ⟨rfl, BB.out⟩
theorem keptR_hid (k : Int) (T : ByteArray) (hT : T.data.toList = keptM k) : Hid (∀ W, Calls Tryz.prog 38 #[.int .i64 k] W fun e w' => e = .returned (.string T) ∧ Below W.heap.size W w') := Lib.hid fun W => keptR_any k T hT W

end Go.Proofs.YtmfejcmhbncchaaGreatDoor

namespace Go.Proofs.YtmfejcmhbncchaaGreatDoor
open Go.RowKit

theorem shost_hid (k : Int) (t s h : ByteArray) (b : Bool) (p : Int) (pa : ByteArray) (ls : s.size ≤ 1099511627776) (lh : h.size ≤ 1099511627776) : Hid (∀ W, Calls Tryz.prog 37 #[srcV k t s h b p pa] W fun e w' => e = .returned (.bool (shostM (srcM k t s h b p pa))) ∧ Below W.heap.size W w') := Lib.hid fun W => shost_any k t s h b p pa ls lh W

set_option maxRecDepth 100000 in
set_option maxHeartbeats 16000000 in
theorem sright_any (k : Int) (t s h : ByteArray) (b : Bool) (p : Int) (pa : ByteArray) (lt : t.size ≤ 1000000) (ls : s.size ≤ 1099511627776) (lh : h.size ≤ 1099511627776) (w : World) : Calls Tryz.prog 22 #[srcV k t s h b p pa] w fun e w' => e = .returned (.bool (rightS (srcM k t s h b p pa))) ∧ Below w.heap.size w w' := by
  have CS := refScheme_hid s _ rfl ls
  have CF := refForm_hid t (by omega) _ rfl
  obtain ⟨T, hT⟩ := text_of (keptM k)
  have CK := keptR_hid k T hT
  have xA := new_block w (.cells #[.int .i64 k, .string t, .string s, .string h, .bool b, .int .i64 p, .string pa] 24)
  have BB : Hid (Below w.heap.size w (w.alloc (.cells #[.int .i64 k, .string t, .string s, .string h, .bool b, .int .i64 p, .string pa] 24))) := Lib.hid ((Below.refl _ _).alloc (Nat.le_refl _) _)
  have c0 : (w.alloc (.cells #[.int .i64 k, .string t, .string s, .string h, .bool b, .int .i64 p, .string pa] 24)).cell? ⟨w.heap.size, 0, none⟩ = some (.int .i64 k) := by rw [cell_of xA]; rfl
  have c1 : (w.alloc (.cells #[.int .i64 k, .string t, .string s, .string h, .bool b, .int .i64 p, .string pa] 24)).cell? ⟨w.heap.size, 1, none⟩ = some (.string t) := by rw [cell_of xA]; rfl
  have c2 : (w.alloc (.cells #[.int .i64 k, .string t, .string s, .string h, .bool b, .int .i64 p, .string pa] 24)).cell? ⟨w.heap.size, 2, none⟩ = some (.string s) := by rw [cell_of xA]; rfl
  have c3 : (w.alloc (.cells #[.int .i64 k, .string t, .string s, .string h, .bool b, .int .i64 p, .string pa] 24)).cell? ⟨w.heap.size, 3, none⟩ = some (.string h) := by rw [cell_of xA]; rfl
  have c4 : (w.alloc (.cells #[.int .i64 k, .string t, .string s, .string h, .bool b, .int .i64 p, .string pa] 24)).cell? ⟨w.heap.size, 4, none⟩ = some (.bool b) := by rw [cell_of xA]; rfl
  have c5 : (w.alloc (.cells #[.int .i64 k, .string t, .string s, .string h, .bool b, .int .i64 p, .string pa] 24)).cell? ⟨w.heap.size, 5, none⟩ = some (.int .i64 p) := by rw [cell_of xA]; rfl
  have c6 : (w.alloc (.cells #[.int .i64 k, .string t, .string s, .string h, .bool b, .int .i64 p, .string pa] 24)).cell? ⟨w.heap.size, 6, none⟩ = some (.string pa) := by rw [cell_of xA]; rfl
  clear xA
  unfold srcV
  cases gh : h.toList.isEmpty
  · have eh : h.data.toList.isEmpty = false := by rw [← text_empty]; exact gh
    by_cases k9 : k = 9
    · subst k9
      have HR : Hid (false = rightS (srcM 9 t s h b p pa)) := Lib.hid (by unfold rightS bareS srcM; simp [eh])
      go_enter Tryz.func22, Tryz.ntmps22
      go_wp2
      go_ret
      exact ⟨ret_bool HR.out, BB.out⟩
    by_cases k10 : k = 10
    · subst k10
      have HR : Hid (false = rightS (srcM 10 t s h b p pa)) := Lib.hid (by unfold rightS bareS srcM; simp [eh])
      go_enter Tryz.func22, Tryz.ntmps22
      go_wp2
      go_ret
      exact ⟨ret_bool HR.out, BB.out⟩
    by_cases k11 : k = 11
    · subst k11
      have HR : Hid (false = rightS (srcM 11 t s h b p pa)) := Lib.hid (by unfold rightS bareS srcM; simp [eh])
      go_enter Tryz.func22, Tryz.ntmps22
      go_wp2
      go_ret
      exact ⟨ret_bool HR.out, BB.out⟩
    by_cases k12 : k = 12
    · subst k12
      have CHO := shost_hid 12 t s h b p pa ls lh
      unfold srcV at CHO
      generalize hsh : shostM (srcM 12 t s h b p pa) = r at CHO
      have HR : Hid (r = rightS (srcM 12 t s h b p pa)) := Lib.hid (by rw [← hsh]; rfl)
      go_enter Tryz.func22, Tryz.ntmps22
      go_wp2_with (go_at_call 37; (with_reducible refine (CHO.out _).mono ?_); rintro e w7 ⟨rfl, b7⟩)
      go_ret
      exact ⟨ret_bool HR.out, (BB.out.trans (b7.mono BB.out.size))⟩
    have m9 : (k == 9) = false := by rw [beq_eq_false_iff_ne]; exact k9
    have m10 : (k == 10) = false := by rw [beq_eq_false_iff_ne]; exact k10
    have m11 : (k == 11) = false := by rw [beq_eq_false_iff_ne]; exact k11
    have m12 : (k == 12) = false := by rw [beq_eq_false_iff_ne]; exact k12
    cases gT : T.toList.isEmpty
    · have eT : (keptM k).isEmpty = false := by rw [← hT, ← text_empty]; exact gT
      have HR : Hid (false = rightS (srcM k t s h b p pa)) := Lib.hid (by unfold rightS bareS srcM; simp [eh, k9, k10, k11, k12, eT])
      go_enter Tryz.func22, Tryz.ntmps22
      go_wp2_with (first | (go_at_call 38; (with_reducible refine (CK.out _).mono ?_); rintro e w7 ⟨rfl, b7⟩; have d1 := (b7.cell (lt_of_cell c1)).trans c1; have d2 := (b7.cell (lt_of_cell c2)).trans c2))
      go_ret
      exact ⟨ret_bool HR.out, (BB.out.trans (b7.mono BB.out.size))⟩
    · have eT : (keptM k).isEmpty = true := by rw [← hT, ← text_empty]; exact gT
      have HR : Hid (false = rightS (srcM k t s h b p pa)) := Lib.hid (by unfold rightS bareS srcM; simp [eh, k9, k10, k11, k12, eT])
      go_enter Tryz.func22, Tryz.ntmps22
      go_wp2_with (first | (go_at_call 38; (with_reducible refine (CK.out _).mono ?_); rintro e w7 ⟨rfl, b7⟩; have d1 := (b7.cell (lt_of_cell c1)).trans c1; have d2 := (b7.cell (lt_of_cell c2)).trans c2))
      go_ret
      exact ⟨ret_bool HR.out, (BB.out.trans (b7.mono BB.out.size))⟩
  · have eh : h.data.toList.isEmpty = true := by rw [← text_empty]; exact gh
    cases b
    case true =>
      by_cases k9 : k = 9
      · subst k9
        have HR : Hid (false = rightS (srcM 9 t s h true p pa)) := Lib.hid (by unfold rightS bareS srcM; simp [eh])
        go_enter Tryz.func22, Tryz.ntmps22
        go_wp2
        go_ret
        exact ⟨ret_bool HR.out, BB.out⟩
      by_cases k10 : k = 10
      · subst k10
        have HR : Hid (false = rightS (srcM 10 t s h true p pa)) := Lib.hid (by unfold rightS bareS srcM; simp [eh])
        go_enter Tryz.func22, Tryz.ntmps22
        go_wp2
        go_ret
        exact ⟨ret_bool HR.out, BB.out⟩
      by_cases k11 : k = 11
      · subst k11
        have HR : Hid (false = rightS (srcM 11 t s h true p pa)) := Lib.hid (by unfold rightS bareS srcM; simp [eh])
        go_enter Tryz.func22, Tryz.ntmps22
        go_wp2
        go_ret
        exact ⟨ret_bool HR.out, BB.out⟩
      by_cases k12 : k = 12
      · subst k12
        have CHO := shost_hid 12 t s h true p pa ls lh
        unfold srcV at CHO
        generalize hsh : shostM (srcM 12 t s h true p pa) = r at CHO
        have HR : Hid (r = rightS (srcM 12 t s h true p pa)) := Lib.hid (by rw [← hsh]; rfl)
        go_enter Tryz.func22, Tryz.ntmps22
        go_wp2_with (go_at_call 37; (with_reducible refine (CHO.out _).mono ?_); rintro e w7 ⟨rfl, b7⟩)
        go_ret
        exact ⟨ret_bool HR.out, (BB.out.trans (b7.mono BB.out.size))⟩
      have m9 : (k == 9) = false := by rw [beq_eq_false_iff_ne]; exact k9
      have m10 : (k == 10) = false := by rw [beq_eq_false_iff_ne]; exact k10
      have m11 : (k == 11) = false := by rw [beq_eq_false_iff_ne]; exact k11
      have m12 : (k == 12) = false := by rw [beq_eq_false_iff_ne]; exact k12
      cases gT : T.toList.isEmpty
      · have eT : (keptM k).isEmpty = false := by rw [← hT, ← text_empty]; exact gT
        have HR : Hid (false = rightS (srcM k t s h true p pa)) := Lib.hid (by unfold rightS bareS srcM; simp [eh, k9, k10, k11, k12, eT])
        go_enter Tryz.func22, Tryz.ntmps22
        go_wp2_with (first | (go_at_call 38; (with_reducible refine (CK.out _).mono ?_); rintro e w7 ⟨rfl, b7⟩; have d1 := (b7.cell (lt_of_cell c1)).trans c1; have d2 := (b7.cell (lt_of_cell c2)).trans c2))
        go_ret
        exact ⟨ret_bool HR.out, (BB.out.trans (b7.mono BB.out.size))⟩
      · have eT : (keptM k).isEmpty = true := by rw [← hT, ← text_empty]; exact gT
        have HR : Hid (false = rightS (srcM k t s h true p pa)) := Lib.hid (by unfold rightS bareS srcM; simp [eh, k9, k10, k11, k12, eT])
        go_enter Tryz.func22, Tryz.ntmps22
        go_wp2_with (first | (go_at_call 38; (with_reducible refine (CK.out _).mono ?_); rintro e w7 ⟨rfl, b7⟩; have d1 := (b7.cell (lt_of_cell c1)).trans c1; have d2 := (b7.cell (lt_of_cell c2)).trans c2))
        go_ret
        exact ⟨ret_bool HR.out, (BB.out.trans (b7.mono BB.out.size))⟩
    case false =>
      by_cases p0 : p = 0
      · subst p0
        cases gpa : pa.toList.isEmpty
        · have epa : pa.data.toList.isEmpty = false := by rw [← text_empty]; exact gpa
          by_cases k9 : k = 9
          · subst k9
            have HR : Hid (false = rightS (srcM 9 t s h false 0 pa)) := Lib.hid (by unfold rightS bareS srcM; simp [eh, epa])
            go_enter Tryz.func22, Tryz.ntmps22
            go_wp2
            go_ret
            exact ⟨ret_bool HR.out, BB.out⟩
          by_cases k10 : k = 10
          · subst k10
            have HR : Hid (false = rightS (srcM 10 t s h false 0 pa)) := Lib.hid (by unfold rightS bareS srcM; simp [eh, epa])
            go_enter Tryz.func22, Tryz.ntmps22
            go_wp2
            go_ret
            exact ⟨ret_bool HR.out, BB.out⟩
          by_cases k11 : k = 11
          · subst k11
            have HR : Hid (false = rightS (srcM 11 t s h false 0 pa)) := Lib.hid (by unfold rightS bareS srcM; simp [eh, epa])
            go_enter Tryz.func22, Tryz.ntmps22
            go_wp2
            go_ret
            exact ⟨ret_bool HR.out, BB.out⟩
          by_cases k12 : k = 12
          · subst k12
            have CHO := shost_hid 12 t s h false 0 pa ls lh
            unfold srcV at CHO
            generalize hsh : shostM (srcM 12 t s h false 0 pa) = r at CHO
            have HR : Hid (r = rightS (srcM 12 t s h false 0 pa)) := Lib.hid (by rw [← hsh]; rfl)
            go_enter Tryz.func22, Tryz.ntmps22
            go_wp2_with (go_at_call 37; (with_reducible refine (CHO.out _).mono ?_); rintro e w7 ⟨rfl, b7⟩)
            go_ret
            exact ⟨ret_bool HR.out, (BB.out.trans (b7.mono BB.out.size))⟩
          have m9 : (k == 9) = false := by rw [beq_eq_false_iff_ne]; exact k9
          have m10 : (k == 10) = false := by rw [beq_eq_false_iff_ne]; exact k10
          have m11 : (k == 11) = false := by rw [beq_eq_false_iff_ne]; exact k11
          have m12 : (k == 12) = false := by rw [beq_eq_false_iff_ne]; exact k12
          cases gT : T.toList.isEmpty
          · have eT : (keptM k).isEmpty = false := by rw [← hT, ← text_empty]; exact gT
            have HR : Hid (false = rightS (srcM k t s h false 0 pa)) := Lib.hid (by unfold rightS bareS srcM; simp [eh, epa, k9, k10, k11, k12, eT])
            go_enter Tryz.func22, Tryz.ntmps22
            go_wp2_with (first | (go_at_call 38; (with_reducible refine (CK.out _).mono ?_); rintro e w7 ⟨rfl, b7⟩; have d1 := (b7.cell (lt_of_cell c1)).trans c1; have d2 := (b7.cell (lt_of_cell c2)).trans c2))
            go_ret
            exact ⟨ret_bool HR.out, (BB.out.trans (b7.mono BB.out.size))⟩
          · have eT : (keptM k).isEmpty = true := by rw [← hT, ← text_empty]; exact gT
            have HR : Hid (false = rightS (srcM k t s h false 0 pa)) := Lib.hid (by unfold rightS bareS srcM; simp [eh, epa, k9, k10, k11, k12, eT])
            go_enter Tryz.func22, Tryz.ntmps22
            go_wp2_with (first | (go_at_call 38; (with_reducible refine (CK.out _).mono ?_); rintro e w7 ⟨rfl, b7⟩; have d1 := (b7.cell (lt_of_cell c1)).trans c1; have d2 := (b7.cell (lt_of_cell c2)).trans c2))
            go_ret
            exact ⟨ret_bool HR.out, (BB.out.trans (b7.mono BB.out.size))⟩
        · have epa : pa.data.toList.isEmpty = true := by rw [← text_empty]; exact gpa
          by_cases k9 : k = 9
          · subst k9
            cases gs : s.toList.isEmpty
            · have es : s.data.toList.isEmpty = false := by rw [← text_empty]; exact gs
              have HR : Hid (false = rightS (srcM 9 t s h false 0 pa)) := Lib.hid (by unfold rightS bareS srcM; simp [eh, epa, es])
              go_enter Tryz.func22, Tryz.ntmps22
              go_wp2
              go_ret
              exact ⟨ret_bool HR.out, BB.out⟩
            · have es : s.data.toList.isEmpty = true := by rw [← text_empty]; exact gs
              by_cases l1 : (200 : Int) < (t.size : Int)
              · have l2 : ¬ t.size ≤ 200 := by omega
                have HR : Hid (false = rightS (srcM 9 t s h false 0 pa)) := Lib.hid (by unfold rightS bareS srcM; simp [eh, epa, es, l2])
                go_enter Tryz.func22, Tryz.ntmps22
                go_wp2
                go_ret
                exact ⟨ret_bool HR.out, BB.out⟩
              have l2 : t.size ≤ 200 := by omega
              cases hf : formM t.data.toList
              · rw [hf] at CF
                have HR : Hid (false = rightS (srcM 9 t s h false 0 pa)) := Lib.hid (by unfold rightS bareS srcM; simp [eh, epa, es, l2, hf])
                go_enter Tryz.func22, Tryz.ntmps22
                go_wp2_with (first | (go_at_call 35; (with_reducible refine (CF.out _).mono ?_); rintro e w7 ⟨rfl, rfl⟩))
                go_ret
                exact ⟨ret_bool HR.out, BB.out⟩
              · rw [hf] at CF
                have HR : Hid (true = rightS (srcM 9 t s h false 0 pa)) := Lib.hid (by unfold rightS bareS srcM; simp [eh, epa, es, l2, hf])
                go_enter Tryz.func22, Tryz.ntmps22
                go_wp2_with (first | (go_at_call 35; (with_reducible refine (CF.out _).mono ?_); rintro e w7 ⟨rfl, rfl⟩))
                go_ret
                exact ⟨ret_bool HR.out, BB.out⟩
          by_cases k10 : k = 10
          · subst k10
            cases gs : s.toList.isEmpty
            · have es : s.data.toList.isEmpty = false := by rw [← text_empty]; exact gs
              have HR : Hid (false = rightS (srcM 10 t s h false 0 pa)) := Lib.hid (by unfold rightS bareS srcM; simp [eh, epa, es])
              go_enter Tryz.func22, Tryz.ntmps22
              go_wp2
              go_ret
              exact ⟨ret_bool HR.out, BB.out⟩
            · have es : s.data.toList.isEmpty = true := by rw [← text_empty]; exact gs
              have l0 : ((t.size : Int) == 16) = decide (t.size = 16) := by rw [Bool.eq_iff_iff]; simp; omega
              by_cases l1 : t.size = 16
              · rw [decide_eq_true l1] at l0
                have HR : Hid (true = rightS (srcM 10 t s h false 0 pa)) := Lib.hid (by unfold rightS bareS srcM; simp [eh, epa, es, l1])
                go_enter Tryz.func22, Tryz.ntmps22
                go_wp2
                go_ret
                exact ⟨ret_bool HR.out, BB.out⟩
              · rw [decide_eq_false l1] at l0
                have HR : Hid (false = rightS (srcM 10 t s h false 0 pa)) := Lib.hid (by unfold rightS bareS srcM; simp [eh, epa, es, l1])
                go_enter Tryz.func22, Tryz.ntmps22
                go_wp2
                go_ret
                exact ⟨ret_bool HR.out, BB.out⟩
          by_cases k11 : k = 11
          · subst k11
            cases gt : t.toList.isEmpty
            · have et : t.data.toList.isEmpty = false := by rw [← text_empty]; exact gt
              have HR : Hid (false = rightS (srcM 11 t s h false 0 pa)) := Lib.hid (by unfold rightS bareS srcM; simp [eh, epa, et])
              go_enter Tryz.func22, Tryz.ntmps22
              go_wp2
              go_ret
              exact ⟨ret_bool HR.out, BB.out⟩
            · have et : t.data.toList.isEmpty = true := by rw [← text_empty]; exact gt
              cases hs : schM s.data.toList
              · rw [hs] at CS
                have HR : Hid (false = rightS (srcM 11 t s h false 0 pa)) := Lib.hid (by unfold rightS bareS srcM; simp [eh, epa, et, hs])
                go_enter Tryz.func22, Tryz.ntmps22
                go_wp2_with (first | (go_at_call 36; (with_reducible refine (CS.out _).mono ?_); rintro e w7 ⟨rfl, rfl⟩))
                go_ret
                exact ⟨ret_bool HR.out, BB.out⟩
              · rw [hs] at CS
                have HR : Hid (true = rightS (srcM 11 t s h false 0 pa)) := Lib.hid (by unfold rightS bareS srcM; simp [eh, epa, et, hs])
                go_enter Tryz.func22, Tryz.ntmps22
                go_wp2_with (first | (go_at_call 36; (with_reducible refine (CS.out _).mono ?_); rintro e w7 ⟨rfl, rfl⟩))
                go_ret
                exact ⟨ret_bool HR.out, BB.out⟩
          by_cases k12 : k = 12
          · subst k12
            have CHO := shost_hid 12 t s h false 0 pa ls lh
            unfold srcV at CHO
            generalize hsh : shostM (srcM 12 t s h false 0 pa) = r at CHO
            have HR : Hid (r = rightS (srcM 12 t s h false 0 pa)) := Lib.hid (by rw [← hsh]; rfl)
            go_enter Tryz.func22, Tryz.ntmps22
            go_wp2_with (go_at_call 37; (with_reducible refine (CHO.out _).mono ?_); rintro e w7 ⟨rfl, b7⟩)
            go_ret
            exact ⟨ret_bool HR.out, (BB.out.trans (b7.mono BB.out.size))⟩
          have m9 : (k == 9) = false := by rw [beq_eq_false_iff_ne]; exact k9
          have m10 : (k == 10) = false := by rw [beq_eq_false_iff_ne]; exact k10
          have m11 : (k == 11) = false := by rw [beq_eq_false_iff_ne]; exact k11
          have m12 : (k == 12) = false := by rw [beq_eq_false_iff_ne]; exact k12
          cases gT : T.toList.isEmpty
          · have eT : (keptM k).isEmpty = false := by rw [← hT, ← text_empty]; exact gT
            cases gs : s.toList.isEmpty
            · have es : s.data.toList.isEmpty = false := by rw [← text_empty]; exact gs
              have HR : Hid (false = rightS (srcM k t s h false 0 pa)) := Lib.hid (by unfold rightS bareS srcM; simp [eh, epa, k9, k10, k11, k12, eT, es])
              go_enter Tryz.func22, Tryz.ntmps22
              go_wp2_with (first | (go_at_call 38; (with_reducible refine (CK.out _).mono ?_); rintro e w7 ⟨rfl, b7⟩; have d1 := (b7.cell (lt_of_cell c1)).trans c1; have d2 := (b7.cell (lt_of_cell c2)).trans c2))
              go_ret
              exact ⟨ret_bool HR.out, (BB.out.trans (b7.mono BB.out.size))⟩
            · have es : s.data.toList.isEmpty = true := by rw [← text_empty]; exact gs
              cases gt : t.toList.isEmpty
              · have et : t.data.toList.isEmpty = false := by rw [← text_empty]; exact gt
                have HR : Hid (false = rightS (srcM k t s h false 0 pa)) := Lib.hid (by unfold rightS bareS srcM; simp [eh, epa, k9, k10, k11, k12, eT, es, et])
                go_enter Tryz.func22, Tryz.ntmps22
                go_wp2_with (first | (go_at_call 38; (with_reducible refine (CK.out _).mono ?_); rintro e w7 ⟨rfl, b7⟩; have d1 := (b7.cell (lt_of_cell c1)).trans c1; have d2 := (b7.cell (lt_of_cell c2)).trans c2))
                go_ret
                exact ⟨ret_bool HR.out, (BB.out.trans (b7.mono BB.out.size))⟩
              · have et : t.data.toList.isEmpty = true := by rw [← text_empty]; exact gt
                have HR : Hid (true = rightS (srcM k t s h false 0 pa)) := Lib.hid (by unfold rightS bareS srcM; simp [eh, epa, k9, k10, k11, k12, eT, es, et])
                go_enter Tryz.func22, Tryz.ntmps22
                go_wp2_with (first | (go_at_call 38; (with_reducible refine (CK.out _).mono ?_); rintro e w7 ⟨rfl, b7⟩; have d1 := (b7.cell (lt_of_cell c1)).trans c1; have d2 := (b7.cell (lt_of_cell c2)).trans c2))
                go_ret
                exact ⟨ret_bool HR.out, (BB.out.trans (b7.mono BB.out.size))⟩
          · have eT : (keptM k).isEmpty = true := by rw [← hT, ← text_empty]; exact gT
            have HR : Hid (false = rightS (srcM k t s h false 0 pa)) := Lib.hid (by unfold rightS bareS srcM; simp [eh, epa, k9, k10, k11, k12, eT])
            go_enter Tryz.func22, Tryz.ntmps22
            go_wp2_with (first | (go_at_call 38; (with_reducible refine (CK.out _).mono ?_); rintro e w7 ⟨rfl, b7⟩; have d1 := (b7.cell (lt_of_cell c1)).trans c1; have d2 := (b7.cell (lt_of_cell c2)).trans c2))
            go_ret
            exact ⟨ret_bool HR.out, (BB.out.trans (b7.mono BB.out.size))⟩
      · have q0 : (p == 0) = false := by rw [beq_eq_false_iff_ne]; exact p0
        by_cases k9 : k = 9
        · subst k9
          have HR : Hid (false = rightS (srcM 9 t s h false p pa)) := Lib.hid (by unfold rightS bareS srcM; simp [eh, p0])
          go_enter Tryz.func22, Tryz.ntmps22
          go_wp2
          go_ret
          exact ⟨ret_bool HR.out, BB.out⟩
        by_cases k10 : k = 10
        · subst k10
          have HR : Hid (false = rightS (srcM 10 t s h false p pa)) := Lib.hid (by unfold rightS bareS srcM; simp [eh, p0])
          go_enter Tryz.func22, Tryz.ntmps22
          go_wp2
          go_ret
          exact ⟨ret_bool HR.out, BB.out⟩
        by_cases k11 : k = 11
        · subst k11
          have HR : Hid (false = rightS (srcM 11 t s h false p pa)) := Lib.hid (by unfold rightS bareS srcM; simp [eh, p0])
          go_enter Tryz.func22, Tryz.ntmps22
          go_wp2
          go_ret
          exact ⟨ret_bool HR.out, BB.out⟩
        by_cases k12 : k = 12
        · subst k12
          have CHO := shost_hid 12 t s h false p pa ls lh
          unfold srcV at CHO
          generalize hsh : shostM (srcM 12 t s h false p pa) = r at CHO
          have HR : Hid (r = rightS (srcM 12 t s h false p pa)) := Lib.hid (by rw [← hsh]; rfl)
          go_enter Tryz.func22, Tryz.ntmps22
          go_wp2_with (go_at_call 37; (with_reducible refine (CHO.out _).mono ?_); rintro e w7 ⟨rfl, b7⟩)
          go_ret
          exact ⟨ret_bool HR.out, (BB.out.trans (b7.mono BB.out.size))⟩
        have m9 : (k == 9) = false := by rw [beq_eq_false_iff_ne]; exact k9
        have m10 : (k == 10) = false := by rw [beq_eq_false_iff_ne]; exact k10
        have m11 : (k == 11) = false := by rw [beq_eq_false_iff_ne]; exact k11
        have m12 : (k == 12) = false := by rw [beq_eq_false_iff_ne]; exact k12
        cases gT : T.toList.isEmpty
        · have eT : (keptM k).isEmpty = false := by rw [← hT, ← text_empty]; exact gT
          have HR : Hid (false = rightS (srcM k t s h false p pa)) := Lib.hid (by unfold rightS bareS srcM; simp [eh, p0, k9, k10, k11, k12, eT])
          go_enter Tryz.func22, Tryz.ntmps22
          go_wp2_with (first | (go_at_call 38; (with_reducible refine (CK.out _).mono ?_); rintro e w7 ⟨rfl, b7⟩; have d1 := (b7.cell (lt_of_cell c1)).trans c1; have d2 := (b7.cell (lt_of_cell c2)).trans c2))
          go_ret
          exact ⟨ret_bool HR.out, (BB.out.trans (b7.mono BB.out.size))⟩
        · have eT : (keptM k).isEmpty = true := by rw [← hT, ← text_empty]; exact gT
          have HR : Hid (false = rightS (srcM k t s h false p pa)) := Lib.hid (by unfold rightS bareS srcM; simp [eh, p0, k9, k10, k11, k12, eT])
          go_enter Tryz.func22, Tryz.ntmps22
          go_wp2_with (first | (go_at_call 38; (with_reducible refine (CK.out _).mono ?_); rintro e w7 ⟨rfl, b7⟩; have d1 := (b7.cell (lt_of_cell c1)).trans c1; have d2 := (b7.cell (lt_of_cell c2)).trans c2))
          go_ret
          exact ⟨ret_bool HR.out, (BB.out.trans (b7.mono BB.out.size))⟩

end Go.Proofs.YtmfejcmhbncchaaGreatDoor
