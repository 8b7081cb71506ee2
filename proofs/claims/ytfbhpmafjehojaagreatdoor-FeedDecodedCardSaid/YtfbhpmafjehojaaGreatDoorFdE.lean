/- The Feeder's End; a whole, the program's and the document's. -/
import Derived.Test.YtfbhpmafjehojaaGreatDoorFdZ
import Derived.Test.YtfbhpmafjehojaaGreatDoorTokAF
namespace Go.Proofs.YtfbhpmafjehojaaGreatDoor.U1
open Go.RowKit

/-- Rows of what is told of s, in blocks of their own from B on. -/
def RdIn (w : World) (B : Nat) (s : List UInt8) (tv fv : Value) : Prop := ∃ C m, B ≤ C ∧ OwnT w C m tv (readM s).1 ∧ w.ownsRow C 50 2 fv (readM s).2.length (flC (readM s).2)
section
variable {w w' : World} {B R : Nat} {s : List UInt8} {tv fv : Value}
theorem RdIn.kpR (h : RdIn w B s tv fv) (k : Kp (isR R) w w') (hR : R < B) : RdIn w' B s tv fv := by
  obtain ⟨C, m, h0, h1, h2⟩ := h
  exact ⟨C, m, h0, kpR_toks h1 k (by omega), kpR_row h2 k (by omega)⟩
theorem RdIn.below (h : RdIn w B s tv fv) (b : Below w.heap.size w w') : RdIn w' B s tv fv := by
  obtain ⟨C, m, h0, h1, h2⟩ := h
  have k : Kp (fun _ _ => False) w w' := Kp.of_below b
  exact ⟨C, m, h0, h1.kp k (fun _ _ _ => id) (fun _ _ _ => id), k.row h2 fun _ _ _ => id⟩
theorem RdIn.low {B' : Nat} (h : RdIn w B s tv fv) (hB : B' ≤ B) : RdIn w B' s tv fv := by
  obtain ⟨C, m, h0, h1⟩ := h
  exact ⟨C, m, by omega, h1⟩
theorem RdIn.form (h : RdIn w B s tv fv) : (∃ a c, tv = .slice a (readM s).1.length c) ∧ ∃ a c, fv = .slice a (readM s).2.length c := by
  obtain ⟨C, m, h0, h1, h2⟩ := h
  refine ⟨h1.form, ?_⟩
  rcases rowForms h2 with ⟨e1, e2⟩ | ⟨g, c, e1⟩
  · exact ⟨none, 0, by rw [e1, e2]⟩
  · exact ⟨_, _, e1⟩
end
/-- What is told of s at W. -/
def TokX (s : List UInt8) (W : World) (e : Ending) (w' : World) : Prop := ∃ tv fv, e = .returned (.tuple #[tv, fv, .int .i64 0]) ∧ RdIn w' W.heap.size s tv fv ∧ Below W.heap.size W w'
theorem TokX.of {s : List UInt8} {W w1 w' : World} {e : Ending} (h : TokP s w1 e w') (b : Below W.heap.size W w1) : TokX s W e w' := by
  obtain ⟨tv, fv, m, he, h1, h2, h3⟩ := h
  exact ⟨tv, fv, he, ⟨_, m, b.size, h1, h2⟩, b.trans (h3.mono b.size)⟩
theorem dec_len (l : List UInt8) : (dec l).length ≤ 4 * l.length := by
  have h2 := (encs_len_le (pts l)).2
  have h3 := (pts_len l).1
  have h5 : (dec l).length = (encs (pts l)).length := rfl
  omega
set_option maxRecDepth 100000 in
set_option maxHeartbeats 2000000 in
theorem whole_hid (b : List UInt8) (hl : b.length ≤ 5000) : Hid (∀ W v, BytesIn W v b → Lw W → Calls Tryz.prog 9 #[v] W (TokX (dec b) W)) := Lib.hid fun w v hb hw => by
  obtain ⟨a, c, rfl⟩ := hb.form
  have HD := Lib.hid (decode_any b _ w (by omega) hb hw.2)
  have HT := Lib.hid (fun W h => tokens_any ⟨(dec b).toArray⟩ (by rw [bsize]; have := dec_len b; omega) W h)
  have HW := Lib.hid hw
  have z1 : ¬ (20000 : Int) < (b.length : Int) := by omega
  clear hb hw
  generalize dec b = T at *
  go_enter Tryz.func9, Tryz.ntmps9
  go_wp2_with fail
  refine HD.out.mono ?_
  rintro e w1 ⟨rfl, b1⟩
  go_wp2_with fail
  refine (HT.out _ (HW.out.below b1).1).mono ?_
  rintro e w2 hP
  have HX := Lib.hid (TokX.of hP b1)
  clear hP
  obtain ⟨tv, fv, rfl, h1, h2⟩ := HX.out
  clear h1 h2
  go_wp2
  go_ret3
  exact HX.out
set_option maxRecDepth 100000 in
theorem wholeL_hid (b : List UInt8) (hl : 20000 < b.length) : Hid (∀ W v, BytesIn W v b → Calls Tryz.prog 9 #[v] W fun e w' => e = .returned (.tuple #[.slice none 0 0, .slice none 0 0, .int .i64 2]) ∧ w' = W) := Lib.hid fun w v hb => by
  obtain ⟨a, c, rfl⟩ := hb.form
  have z1 : (20000 : Int) < (b.length : Int) := by omega
  clear hb hl
  go_enter Tryz.func9, Tryz.ntmps9
  go_wp2
  go_ret3
  exact ⟨rfl, rfl⟩
set_option maxRecDepth 100000 in
set_option maxHeartbeats 2000000 in
theorem wholeQ_hid (b : List UInt8) (hl : b.length ≤ 2200) : Hid (∀ W, Calls Tryz.prog 10 #[.string ⟨b.toArray⟩] W (TokX (dec b) W)) := Lib.hid fun w => by
  have HD := Lib.hid (refDecode_any ⟨b.toArray⟩ w (by rw [bsize]; omega))
  have HT := Lib.hid (fun W => tokensQ_any ⟨(dec b).toArray⟩ (by rw [bsize]; have := dec_len b; omega) W)
  have z1 : ¬ (20000 : Int) < (b.length : Int) := by omega
  simp only at HD HT
  generalize dec b = T at *
  go_enter Tryz.func10, Tryz.ntmps10
  go_wp2_with fail
  refine HD.out.mono ?_
  rintro e w1 ⟨rfl, b1⟩
  go_wp2_with fail
  refine (HT.out _).mono ?_
  rintro e w2 hP
  have HX := Lib.hid (TokX.of hP b1)
  clear hP
  obtain ⟨tv, fv, rfl, h1, h2⟩ := HX.out
  clear h1 h2
  go_wp2
  go_ret3
  exact HX.out
set_option maxRecDepth 100000 in
theorem wholeQL_hid (b : List UInt8) (hl : 20000 < b.length) : Hid (∀ W, Calls Tryz.prog 10 #[.string ⟨b.toArray⟩] W fun e w' => e = .returned (.tuple #[.slice none 0 0, .slice none 0 0, .int .i64 2]) ∧ w' = W) := Lib.hid fun w => by
  have z1 : (20000 : Int) < (b.length : Int) := by omega
  clear hl
  go_enter Tryz.func10, Tryz.ntmps10
  go_wp2
  go_ret3
  exact ⟨rfl, rfl⟩
set_option maxRecDepth 100000 in
set_option maxHeartbeats 2000000 in
/-- End: what is told of all that was taken; it begins anew. -/
theorem endF_hid (w0 : World) (h0 : Lw w0) : Hid (∀ W R m, Below w0.heap.size w0 W → w0.heap.size ≤ R → FdAt W R m → m.length ≤ 5000 → Calls Tryz.prog 17 #[.pointer (some ⟨R, 0, none⟩)] W fun e w' => ∃ tv fv, e = .returned (.tuple #[tv, fv, .int .i64 0]) ∧ RdIn w' W.heap.size (dec m) tv fv ∧ Kp (isR R) W w' ∧ FdAt w' R []) := Lib.hid fun w R m hb hR h hl => by
  have HD := Lib.hid (endD_any R m w h (by omega) (h0.below hb).2)
  have HT := Lib.hid (fun W h => tokens_any ⟨(dec m).toArray⟩ (by rw [bsize]; have := dec_len m; omega) W h)
  have HW : Hid (∀ w', Kp (isR R) w w' → Low w') := Lib.hid fun w' k => (h0.below (kpR_below k hR h.lt hb)).1
  clear hb h0 hl h
  simp only at HT
  generalize dec m = T at *
  go_enter Tryz.func17, Tryz.ntmps17
  go_wp2_with fail
  refine HD.out.mono ?_
  rintro e w1 ⟨rfl, k1, f1⟩
  have HK := Lib.hid (And.intro k1 f1)
  clear k1 f1 HD
  go_wp2_with fail
  refine (HT.out _ (HW.out _ HK.out.1)).mono ?_
  rintro e w2 ⟨tv, fv, mm, rfl, p1, p2, p3⟩
  have HX : Hid (RdIn w2 w.heap.size T tv fv ∧ Kp (isR R) w w2 ∧ FdAt w2 R []) := Lib.hid ⟨⟨_, mm, HK.out.1.size, p1, p2⟩, HK.out.1.trans (Kp.of_below p3), HK.out.2.below p3⟩
  clear p1 p2 p3 HT HW HK
  go_wp2
  go_ret3
  exact ⟨tv, fv, rfl, HX.out⟩

end Go.Proofs.YtfbhpmafjehojaaGreatDoor.U1
