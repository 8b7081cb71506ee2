/- A path's pieces, a path cleaned: the document's; ports, and addresses that are too big, the document's. -/
import Derived.Test.YtlkpdepdflcbcaaDoorWalkL
namespace Go.Proofs.YtlkpdepdflcbcaaDoor
open Go.RowKit

set_option maxRecDepth 100000 in
theorem refDefault_any (s : ByteArray) (w : World) : Calls Tryd.prog 19 #[.string s] w fun e w' => e = .returned (.int .i64 (dfl s.data.toList : Int)) ∧ w' = w := by
  have g1 : (s.toList == [104, 116, 116, 112]) = decide (s.data.toList = HTTP) := text_lit _ _
  have g2 : (s.toList == [119, 115]) = decide (s.data.toList = WS) := text_lit _ _
  have g3 : (s.toList == [104, 116, 116, 112, 115]) = decide (s.data.toList = HTTPS) := text_lit _ _
  have g4 : (s.toList == [119, 115, 115]) = decide (s.data.toList = WSS) := text_lit _ _
  have hd : dfl s.data.toList = if s.data.toList = HTTP ∨ s.data.toList = WS then 80 else if s.data.toList = HTTPS ∨ s.data.toList = WSS then 443 else 0 := rfl
  by_cases h1 : s.data.toList = HTTP
  · rw [decide_eq_true h1] at g1
    rw [if_pos (.inl h1)] at hd
    rw [hd]
    clear g2 g3 g4 h1 hd
    go_enter Tryd.func19, Tryd.ntmps19
    go_wp2
    go_ret
    exact ⟨rfl, rfl⟩
  rw [decide_eq_false h1] at g1
  by_cases h2 : s.data.toList = WS
  · rw [decide_eq_true h2] at g2
    rw [if_pos (.inr h2)] at hd
    rw [hd]
    clear g3 g4 h1 h2 hd
    go_enter Tryd.func19, Tryd.ntmps19
    go_wp2
    go_ret
    exact ⟨rfl, rfl⟩
  rw [decide_eq_false h2] at g2
  rw [if_neg (by rintro (h | h); exact h1 h; exact h2 h)] at hd
  by_cases h3 : s.data.toList = HTTPS
  · rw [decide_eq_true h3] at g3
    rw [if_pos (.inl h3)] at hd
    rw [hd]
    clear g4 h1 h2 h3 hd
    go_enter Tryd.func19, Tryd.ntmps19
    go_wp2
    go_ret
    exact ⟨rfl, rfl⟩
  rw [decide_eq_false h3] at g3
  by_cases h4 : s.data.toList = WSS
  · rw [decide_eq_true h4] at g4
    rw [if_pos (.inr h4)] at hd
    rw [hd]
    clear h1 h2 h3 h4 hd
    go_enter Tryd.func19, Tryd.ntmps19
    go_wp2
    go_ret
    exact ⟨rfl, rfl⟩
  · rw [decide_eq_false h4] at g4
    rw [if_neg (by rintro (h | h); exact h3 h; exact h4 h)] at hd
    rw [hd]
    clear h1 h2 h3 h4 hd
    go_enter Tryd.func19, Tryd.ntmps19
    go_wp2
    go_ret
    exact ⟨rfl, rfl⟩
theorem refDefault_hid (s : ByteArray) (n : Nat) (h : dfl s.data.toList = n) : Hid (∀ W, Calls Tryd.prog 19 #[.string s] W fun e w' => e = .returned (.int .i64 (n : Int)) ∧ w' = W) :=
  Lib.hid fun W => by rw [← h]; exact refDefault_any s W


def CAt (l : List UInt8) (fr k : Nat) (acc : List (List UInt8)) : Prop := (k ≤ l.length ∧ CutTo sl l fr k acc) ∨ (k = l.length + 1 ∧ acc = cut sl (l.drop 1) ∧ acc.length ≤ l.length + 1)
theorem sl_int (b : UInt8) : ((b.toNat : Int) == 47) = sl b := int_beq b 47

end Go.Proofs.YtlkpdepdflcbcaaDoor
