/- A source's struct; is a SourceHost right: the document's. -/
import Derived.Test.YtmfejcmhbncchaaGreatDoorRefSA
namespace Go.Proofs.YtmfejcmhbncchaaGreatDoor
open Go.RowKit

def srcV (k : Int) (t s h : ByteArray) (b : Bool) (p : Int) (pa : ByteArray) : Value := .agg #[.int .i64 k, .string t, .string s, .string h, .bool b, .int .i64 p, .string pa]
def srcM (k : Int) (t s h : ByteArray) (b : Bool) (p : Int) (pa : ByteArray) : Src := ⟨k, t.data.toList, s.data.toList, h.data.toList, b, p, pa.data.toList⟩

set_option maxRecDepth 100000 in
set_option maxHeartbeats 8000000 in
theorem shost_any (k : Int) (t s h : ByteArray) (b : Bool) (p : Int) (pa : ByteArray) (ls : s.size ≤ 1099511627776) (lh : h.size ≤ 1099511627776) (w : World) : Calls Tryz.prog 37 #[srcV k t s h b p pa] w fun e w' => e = .returned (.bool (shostM (srcM k t s h b p pa))) ∧ Below w.heap.size w w' := by
  have CS := refScheme_hid s _ rfl ls
  have CH := refHost_hid h _ rfl lh
  have CPA := spath_hid pa _ rfl
  have xA := new_block w (.cells #[.int .i64 k, .string t, .string s, .string h, .bool b, .int .i64 p, .string pa] 24)
  have BB : Hid (Below w.heap.size w (w.alloc (.cells #[.int .i64 k, .string t, .string s, .string h, .bool b, .int .i64 p, .string pa] 24))) := Lib.hid ((Below.refl _ _).alloc (Nat.le_refl _) _)
  have c0 : (w.alloc (.cells #[.int .i64 k, .string t, .string s, .string h, .bool b, .int .i64 p, .string pa] 24)).cell? ⟨w.heap.size, 0, none⟩ = some (.int .i64 k) := by rw [cell_of xA]; rfl
  have c1 : (w.alloc (.cells #[.int .i64 k, .string t, .string s, .string h, .bool b, .int .i64 p, .string pa] 24)).cell? ⟨w.heap.size, 1, none⟩ = some (.string t) := by rw [cell_of xA]; rfl
  have c2 : (w.alloc (.cells #[.int .i64 k, .string t, .string s, .string h, .bool b, .int .i64 p, .string pa] 24)).cell? ⟨w.heap.size, 2, none⟩ = some (.string s) := by rw [cell_of xA]; rfl
  have c3 : (w.alloc (.cells #[.int .i64 k, .string t, .string s, .string h, .bool b, .int .i64 p, .string pa] 24)).cell? ⟨w.heap.size, 3, none⟩ = some (.string h) := by rw [cell_of xA]; rfl
  have c4 : (w.alloc (.cells #[.int .i64 k, .string t, .string s, .string h, .bool b, .int .i64 p, .string pa] 24)).cell? ⟨w.heap.size, 4, none⟩ = some (.bool b) := by rw [cell_of xA]; rfl
  have c5 : (w.alloc (.cells #[.int .i64 k, .string t, .string s, .string h, .bool b, .int .i64 p, .string pa] 24)).cell? ⟨w.heap.size, 5, none⟩ = some (.int .i64 p) := by rw [cell_of xA]; rfl
  have c6 : (w.alloc (.cells #[.int .i64 k, .string t, .string s, .string h, .bool b, .int .i64 p, .string pa] 24)).cell? ⟨w.heap.size, 6, none⟩ = some (.string pa) := by rw [cell_of xA]; rfl
  clear xA
  unfold srcV
  cases gt : t.toList.isEmpty
  · have et : t.data.toList.isEmpty = false := by rw [← text_empty]; exact gt
    have HR : Hid (false = shostM (srcM k t s h b p pa)) := Lib.hid (by unfold shostM srcM; simp [et])
    go_enter Tryz.func37, Tryz.ntmps37
    go_wp2_with (first | (go_at_call 36; (with_reducible refine (CS.out _).mono ?_); rintro e w7 ⟨rfl, rfl⟩) | (go_at_call 64; (with_reducible refine (CH.out _).mono ?_); rintro e w7 ⟨rfl, rfl⟩) | (go_at_call 65; (with_reducible refine (CPA.out _).mono ?_); rintro e w7 ⟨rfl, rfl⟩))
    go_ret
    exact ⟨ret_bool HR.out, BB.out⟩
  have et : t.data.toList.isEmpty = true := by rw [← text_empty]; exact gt
  cases gs : s.toList.isEmpty
  · have es : s.data.toList.isEmpty = false := by rw [← text_empty]; exact gs
    cases hs : schM s.data.toList
    · rw [hs] at CS
      have HR : Hid (false = shostM (srcM k t s h b p pa)) := Lib.hid (by unfold shostM srcM; simp [et, es, hs])
      go_enter Tryz.func37, Tryz.ntmps37
      go_wp2_with (first | (go_at_call 36; (with_reducible refine (CS.out _).mono ?_); rintro e w7 ⟨rfl, rfl⟩) | (go_at_call 64; (with_reducible refine (CH.out _).mono ?_); rintro e w7 ⟨rfl, rfl⟩) | (go_at_call 65; (with_reducible refine (CPA.out _).mono ?_); rintro e w7 ⟨rfl, rfl⟩))
      go_ret
      exact ⟨ret_bool HR.out, BB.out⟩
    · rw [hs] at CS
      cases gh : h.toList.isEmpty
      · have eh : h.data.toList.isEmpty = false := by rw [← text_empty]; exact gh
        cases hh : hostM h.data.toList
        · rw [hh] at CH
          have HR : Hid (false = shostM (srcM k t s h b p pa)) := Lib.hid (by unfold shostM srcM; simp [et, es, hs, eh, hh])
          go_enter Tryz.func37, Tryz.ntmps37
          go_wp2_with (first | (go_at_call 36; (with_reducible refine (CS.out _).mono ?_); rintro e w7 ⟨rfl, rfl⟩) | (go_at_call 64; (with_reducible refine (CH.out _).mono ?_); rintro e w7 ⟨rfl, rfl⟩) | (go_at_call 65; (with_reducible refine (CPA.out _).mono ?_); rintro e w7 ⟨rfl, rfl⟩))
          go_ret
          exact ⟨ret_bool HR.out, BB.out⟩
        · rw [hh] at CH
          by_cases p1 : p < -1
          · have q1 : decide (-1 ≤ p ∧ p ≤ 65535) = false := decide_eq_false (by omega)
            have HR : Hid (false = shostM (srcM k t s h b p pa)) := Lib.hid (by unfold shostM srcM; simp [et, es, hs, eh, hh, q1])
            go_enter Tryz.func37, Tryz.ntmps37
            go_wp2_with (first | (go_at_call 36; (with_reducible refine (CS.out _).mono ?_); rintro e w7 ⟨rfl, rfl⟩) | (go_at_call 64; (with_reducible refine (CH.out _).mono ?_); rintro e w7 ⟨rfl, rfl⟩) | (go_at_call 65; (with_reducible refine (CPA.out _).mono ?_); rintro e w7 ⟨rfl, rfl⟩))
            go_ret
            exact ⟨ret_bool HR.out, BB.out⟩
          by_cases p2 : 65535 < p
          · have q1 : decide (-1 ≤ p ∧ p ≤ 65535) = false := decide_eq_false (by omega)
            have HR : Hid (false = shostM (srcM k t s h b p pa)) := Lib.hid (by unfold shostM srcM; simp [et, es, hs, eh, hh, q1])
            go_enter Tryz.func37, Tryz.ntmps37
            go_wp2_with (first | (go_at_call 36; (with_reducible refine (CS.out _).mono ?_); rintro e w7 ⟨rfl, rfl⟩) | (go_at_call 64; (with_reducible refine (CH.out _).mono ?_); rintro e w7 ⟨rfl, rfl⟩) | (go_at_call 65; (with_reducible refine (CPA.out _).mono ?_); rintro e w7 ⟨rfl, rfl⟩))
            go_ret
            exact ⟨ret_bool HR.out, BB.out⟩
          have q1 : decide (-1 ≤ p ∧ p ≤ 65535) = true := decide_eq_true (by omega)
          have p3 : -1 ≤ p := by omega
          have p4 : p ≤ 65535 := by omega
          cases hpa : spathM pa.data.toList
          · rw [hpa] at CPA
            have HR : Hid (false = shostM (srcM k t s h b p pa)) := Lib.hid (by unfold shostM srcM; simp [et, es, hs, eh, hh, q1, hpa])
            go_enter Tryz.func37, Tryz.ntmps37
            go_wp2_with (first | (go_at_call 36; (with_reducible refine (CS.out _).mono ?_); rintro e w7 ⟨rfl, rfl⟩) | (go_at_call 64; (with_reducible refine (CH.out _).mono ?_); rintro e w7 ⟨rfl, rfl⟩) | (go_at_call 65; (with_reducible refine (CPA.out _).mono ?_); rintro e w7 ⟨rfl, rfl⟩))
            go_ret
            exact ⟨ret_bool HR.out, BB.out⟩
          · rw [hpa] at CPA
            have HR : Hid (true = shostM (srcM k t s h b p pa)) := Lib.hid (by unfold shostM srcM; simp [et, es, hs, eh, hh, q1, hpa])
            go_enter Tryz.func37, Tryz.ntmps37
            go_wp2_with (first | (go_at_call 36; (with_reducible refine (CS.out _).mono ?_); rintro e w7 ⟨rfl, rfl⟩) | (go_at_call 64; (with_reducible refine (CH.out _).mono ?_); rintro e w7 ⟨rfl, rfl⟩) | (go_at_call 65; (with_reducible refine (CPA.out _).mono ?_); rintro e w7 ⟨rfl, rfl⟩))
            go_ret
            exact ⟨ret_bool HR.out, BB.out⟩
      · have eh : h.data.toList.isEmpty = true := by rw [← text_empty]; exact gh
        cases b
        case false =>
          have HR : Hid (false = shostM (srcM k t s h false p pa)) := Lib.hid (by unfold shostM srcM; simp [et, es, hs, eh])
          go_enter Tryz.func37, Tryz.ntmps37
          go_wp2_with (first | (go_at_call 36; (with_reducible refine (CS.out _).mono ?_); rintro e w7 ⟨rfl, rfl⟩) | (go_at_call 64; (with_reducible refine (CH.out _).mono ?_); rintro e w7 ⟨rfl, rfl⟩) | (go_at_call 65; (with_reducible refine (CPA.out _).mono ?_); rintro e w7 ⟨rfl, rfl⟩))
          go_ret
          exact ⟨ret_bool HR.out, BB.out⟩
        case true =>
          by_cases p1 : p < -1
          · have q1 : decide (-1 ≤ p ∧ p ≤ 65535) = false := decide_eq_false (by omega)
            have HR : Hid (false = shostM (srcM k t s h true p pa)) := Lib.hid (by unfold shostM srcM; simp [et, es, hs, eh, q1])
            go_enter Tryz.func37, Tryz.ntmps37
            go_wp2_with (first | (go_at_call 36; (with_reducible refine (CS.out _).mono ?_); rintro e w7 ⟨rfl, rfl⟩) | (go_at_call 64; (with_reducible refine (CH.out _).mono ?_); rintro e w7 ⟨rfl, rfl⟩) | (go_at_call 65; (with_reducible refine (CPA.out _).mono ?_); rintro e w7 ⟨rfl, rfl⟩))
            go_ret
            exact ⟨ret_bool HR.out, BB.out⟩
          by_cases p2 : 65535 < p
          · have q1 : decide (-1 ≤ p ∧ p ≤ 65535) = false := decide_eq_false (by omega)
            have HR : Hid (false = shostM (srcM k t s h true p pa)) := Lib.hid (by unfold shostM srcM; simp [et, es, hs, eh, q1])
            go_enter Tryz.func37, Tryz.ntmps37
            go_wp2_with (first | (go_at_call 36; (with_reducible refine (CS.out _).mono ?_); rintro e w7 ⟨rfl, rfl⟩) | (go_at_call 64; (with_reducible refine (CH.out _).mono ?_); rintro e w7 ⟨rfl, rfl⟩) | (go_at_call 65; (with_reducible refine (CPA.out _).mono ?_); rintro e w7 ⟨rfl, rfl⟩))
            go_ret
            exact ⟨ret_bool HR.out, BB.out⟩
          have q1 : decide (-1 ≤ p ∧ p ≤ 65535) = true := decide_eq_true (by omega)
          have p3 : -1 ≤ p := by omega
          have p4 : p ≤ 65535 := by omega
          cases hpa : spathM pa.data.toList
          · rw [hpa] at CPA
            have HR : Hid (false = shostM (srcM k t s h true p pa)) := Lib.hid (by unfold shostM srcM; simp [et, es, hs, eh, q1, hpa])
            go_enter Tryz.func37, Tryz.ntmps37
            go_wp2_with (first | (go_at_call 36; (with_reducible refine (CS.out _).mono ?_); rintro e w7 ⟨rfl, rfl⟩) | (go_at_call 64; (with_reducible refine (CH.out _).mono ?_); rintro e w7 ⟨rfl, rfl⟩) | (go_at_call 65; (with_reducible refine (CPA.out _).mono ?_); rintro e w7 ⟨rfl, rfl⟩))
            go_ret
            exact ⟨ret_bool HR.out, BB.out⟩
          · rw [hpa] at CPA
            have HR : Hid (true = shostM (srcM k t s h true p pa)) := Lib.hid (by unfold shostM srcM; simp [et, es, hs, eh, q1, hpa])
            go_enter Tryz.func37, Tryz.ntmps37
            go_wp2_with (first | (go_at_call 36; (with_reducible refine (CS.out _).mono ?_); rintro e w7 ⟨rfl, rfl⟩) | (go_at_call 64; (with_reducible refine (CH.out _).mono ?_); rintro e w7 ⟨rfl, rfl⟩) | (go_at_call 65; (with_reducible refine (CPA.out _).mono ?_); rintro e w7 ⟨rfl, rfl⟩))
            go_ret
            exact ⟨ret_bool HR.out, BB.out⟩
  have es : s.data.toList.isEmpty = true := by rw [← text_empty]; exact gs
  cases gh : h.toList.isEmpty
  · have eh : h.data.toList.isEmpty = false := by rw [← text_empty]; exact gh
    cases hh : hostM h.data.toList
    · rw [hh] at CH
      have HR : Hid (false = shostM (srcM k t s h b p pa)) := Lib.hid (by unfold shostM srcM; simp [et, es, eh, hh])
      go_enter Tryz.func37, Tryz.ntmps37
      go_wp2_with (first | (go_at_call 36; (with_reducible refine (CS.out _).mono ?_); rintro e w7 ⟨rfl, rfl⟩) | (go_at_call 64; (with_reducible refine (CH.out _).mono ?_); rintro e w7 ⟨rfl, rfl⟩) | (go_at_call 65; (with_reducible refine (CPA.out _).mono ?_); rintro e w7 ⟨rfl, rfl⟩))
      go_ret
      exact ⟨ret_bool HR.out, BB.out⟩
    · rw [hh] at CH
      by_cases p1 : p < -1
      · have q1 : decide (-1 ≤ p ∧ p ≤ 65535) = false := decide_eq_false (by omega)
        have HR : Hid (false = shostM (srcM k t s h b p pa)) := Lib.hid (by unfold shostM srcM; simp [et, es, eh, hh, q1])
        go_enter Tryz.func37, Tryz.ntmps37
        go_wp2_with (first | (go_at_call 36; (with_reducible refine (CS.out _).mono ?_); rintro e w7 ⟨rfl, rfl⟩) | (go_at_call 64; (with_reducible refine (CH.out _).mono ?_); rintro e w7 ⟨rfl, rfl⟩) | (go_at_call 65; (with_reducible refine (CPA.out _).mono ?_); rintro e w7 ⟨rfl, rfl⟩))
        go_ret
        exact ⟨ret_bool HR.out, BB.out⟩
      by_cases p2 : 65535 < p
      · have q1 : decide (-1 ≤ p ∧ p ≤ 65535) = false := decide_eq_false (by omega)
        have HR : Hid (false = shostM (srcM k t s h b p pa)) := Lib.hid (by unfold shostM srcM; simp [et, es, eh, hh, q1])
        go_enter Tryz.func37, Tryz.ntmps37
        go_wp2_with (first | (go_at_call 36; (with_reducible refine (CS.out _).mono ?_); rintro e w7 ⟨rfl, rfl⟩) | (go_at_call 64; (with_reducible refine (CH.out _).mono ?_); rintro e w7 ⟨rfl, rfl⟩) | (go_at_call 65; (with_reducible refine (CPA.out _).mono ?_); rintro e w7 ⟨rfl, rfl⟩))
        go_ret
        exact ⟨ret_bool HR.out, BB.out⟩
      have q1 : decide (-1 ≤ p ∧ p ≤ 65535) = true := decide_eq_true (by omega)
      have p3 : -1 ≤ p := by omega
      have p4 : p ≤ 65535 := by omega
      cases hpa : spathM pa.data.toList
      · rw [hpa] at CPA
        have HR : Hid (false = shostM (srcM k t s h b p pa)) := Lib.hid (by unfold shostM srcM; simp [et, es, eh, hh, q1, hpa])
        go_enter Tryz.func37, Tryz.ntmps37
        go_wp2_with (first | (go_at_call 36; (with_reducible refine (CS.out _).mono ?_); rintro e w7 ⟨rfl, rfl⟩) | (go_at_call 64; (with_reducible refine (CH.out _).mono ?_); rintro e w7 ⟨rfl, rfl⟩) | (go_at_call 65; (with_reducible refine (CPA.out _).mono ?_); rintro e w7 ⟨rfl, rfl⟩))
        go_ret
        exact ⟨ret_bool HR.out, BB.out⟩
      · rw [hpa] at CPA
        have HR : Hid (true = shostM (srcM k t s h b p pa)) := Lib.hid (by unfold shostM srcM; simp [et, es, eh, hh, q1, hpa])
        go_enter Tryz.func37, Tryz.ntmps37
        go_wp2_with (first | (go_at_call 36; (with_reducible refine (CS.out _).mono ?_); rintro e w7 ⟨rfl, rfl⟩) | (go_at_call 64; (with_reducible refine (CH.out _).mono ?_); rintro e w7 ⟨rfl, rfl⟩) | (go_at_call 65; (with_reducible refine (CPA.out _).mono ?_); rintro e w7 ⟨rfl, rfl⟩))
        go_ret
        exact ⟨ret_bool HR.out, BB.out⟩
  · have eh : h.data.toList.isEmpty = true := by rw [← text_empty]; exact gh
    cases b
    case false =>
      have HR : Hid (false = shostM (srcM k t s h false p pa)) := Lib.hid (by unfold shostM srcM; simp [et, es, eh])
      go_enter Tryz.func37, Tryz.ntmps37
      go_wp2_with (first | (go_at_call 36; (with_reducible refine (CS.out _).mono ?_); rintro e w7 ⟨rfl, rfl⟩) | (go_at_call 64; (with_reducible refine (CH.out _).mono ?_); rintro e w7 ⟨rfl, rfl⟩) | (go_at_call 65; (with_reducible refine (CPA.out _).mono ?_); rintro e w7 ⟨rfl, rfl⟩))
      go_ret
      exact ⟨ret_bool HR.out, BB.out⟩
    case true =>
      by_cases p1 : p < -1
      · have q1 : decide (-1 ≤ p ∧ p ≤ 65535) = false := decide_eq_false (by omega)
        have HR : Hid (false = shostM (srcM k t s h true p pa)) := Lib.hid (by unfold shostM srcM; simp [et, es, eh, q1])
        go_enter Tryz.func37, Tryz.ntmps37
        go_wp2_with (first | (go_at_call 36; (with_reducible refine (CS.out _).mono ?_); rintro e w7 ⟨rfl, rfl⟩) | (go_at_call 64; (with_reducible refine (CH.out _).mono ?_); rintro e w7 ⟨rfl, rfl⟩) | (go_at_call 65; (with_reducible refine (CPA.out _).mono ?_); rintro e w7 ⟨rfl, rfl⟩))
        go_ret
        exact ⟨ret_bool HR.out, BB.out⟩
      by_cases p2 : 65535 < p
      · have q1 : decide (-1 ≤ p ∧ p ≤ 65535) = false := decide_eq_false (by omega)
        have HR : Hid (false = shostM (srcM k t s h true p pa)) := Lib.hid (by unfold shostM srcM; simp [et, es, eh, q1])
        go_enter Tryz.func37, Tryz.ntmps37
        go_wp2_with (first | (go_at_call 36; (with_reducible refine (CS.out _).mono ?_); rintro e w7 ⟨rfl, rfl⟩) | (go_at_call 64; (with_reducible refine (CH.out _).mono ?_); rintro e w7 ⟨rfl, rfl⟩) | (go_at_call 65; (with_reducible refine (CPA.out _).mono ?_); rintro e w7 ⟨rfl, rfl⟩))
        go_ret
        exact ⟨ret_bool HR.out, BB.out⟩
      have q1 : decide (-1 ≤ p ∧ p ≤ 65535) = true := decide_eq_true (by omega)
      have p3 : -1 ≤ p := by omega
      have p4 : p ≤ 65535 := by omega
      cases hpa : spathM pa.data.toList
      · rw [hpa] at CPA
        have HR : Hid (false = shostM (srcM k t s h true p pa)) := Lib.hid (by unfold shostM srcM; simp [et, es, eh, q1, hpa])
        go_enter Tryz.func37, Tryz.ntmps37
        go_wp2_with (first | (go_at_call 36; (with_reducible refine (CS.out _).mono ?_); rintro e w7 ⟨rfl, rfl⟩) | (go_at_call 64; (with_reducible refine (CH.out _).mono ?_); rintro e w7 ⟨rfl, rfl⟩) | (go_at_call 65; (with_reducible refine (CPA.out _).mono ?_); rintro e w7 ⟨rfl, rfl⟩))
        go_ret
        exact ⟨ret_bool HR.out, BB.out⟩
      · rw [hpa] at CPA
        have HR : Hid (true = shostM (srcM k t s h true p pa)) := Lib.hid (by unfold shostM srcM; simp [et, es, eh, q1, hpa])
        go_enter Tryz.func37, Tryz.ntmps37
        go_wp2_with (first | (go_at_call 36; (with_reducible refine (CS.out _).mono ?_); rintro e w7 ⟨rfl, rfl⟩) | (go_at_call 64; (with_reducible refine (CH.out _).mono ?_); rintro e w7 ⟨rfl, rfl⟩) | (go_at_call 65; (with_reducible refine (CPA.out _).mono ?_); rintro e w7 ⟨rfl, rfl⟩))
        go_ret
        exact ⟨ret_bool HR.out, BB.out⟩

end Go.Proofs.YtmfejcmhbncchaaGreatDoor
