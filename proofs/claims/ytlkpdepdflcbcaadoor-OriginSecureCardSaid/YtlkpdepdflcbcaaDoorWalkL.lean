/- The document's rows. -/
import Derived.Test.YtlkpdepdflcbcaaDoorWalkK
namespace Go.Proofs.YtlkpdepdflcbcaaDoor
open Go.RowKit

theorem dec_444 : Lib.decDigits 444 = [52, 52, 52] := by
  rw [Lib.decDigits, dif_neg (by decide), Lib.decDigits, dif_neg (by decide), Lib.decDigits, dif_pos (by decide)]
  rfl
theorem right_c : rightM (uM false ⟨#[104, 116, 116, 112, 115]⟩ ⟨#[97]⟩ 444 ⟨#[47]⟩ ⟨#[]⟩) = true := by
  unfold rightM
  have e1 : rankedM (uM false ⟨#[104, 116, 116, 112, 115]⟩ ⟨#[97]⟩ 444 ⟨#[47]⟩ ⟨#[]⟩) = true := by decide +kernel
  have e2 : (textM (uM false ⟨#[104, 116, 116, 112, 115]⟩ ⟨#[97]⟩ 444 ⟨#[47]⟩ ⟨#[]⟩)).length = 14 := by
    unfold textM uM portT
    have e : ((444 : Int)).toNat = 444 := rfl
    simp [e, dec_444]
  rw [e2]
  show (rankedM _ && decide (14 ≤ 500)) = true
  rw [e1]; rfl
theorem row_a : parseM (⟨#[72, 84, 84, 80, 58, 47, 47, 65, 46, 98, 58, 56, 48, 47, 120, 47, 46, 47, 121, 47, 46, 46, 47, 122, 63, 113, 35, 102]⟩ : ByteArray).data.toList = some (uM false ⟨#[104, 116, 116, 112]⟩ ⟨#[97, 46, 98]⟩ 0 ⟨#[47, 120, 47, 122]⟩ ⟨#[63, 113]⟩) := by decide +kernel
theorem row_b : parseM (⟨#[106, 97, 118, 97, 115, 99, 114, 105, 112, 116, 58, 32, 102, 40, 41]⟩ : ByteArray).data.toList = some (uM true ⟨#[106, 97, 118, 97, 115, 99, 114, 105, 112, 116]⟩ ⟨#[]⟩ 0 ⟨#[102, 40, 41]⟩ ⟨#[]⟩) := by decide +kernel
theorem row_c : parseM (⟨#[104, 116, 116, 112, 115, 58, 47, 47, 97, 58, 52, 52, 52]⟩ : ByteArray).data.toList = some (uM false ⟨#[104, 116, 116, 112, 115]⟩ ⟨#[97]⟩ 444 ⟨#[47]⟩ ⟨#[]⟩) := by
  unfold parseM
  have e : parseT (upto (isC 35) (trim (⟨#[104, 116, 116, 112, 115, 58, 47, 47, 97, 58, 52, 52, 52]⟩ : ByteArray).data.toList)) = some (uM false ⟨#[104, 116, 116, 112, 115]⟩ ⟨#[97]⟩ 444 ⟨#[47]⟩ ⟨#[]⟩) := by decide +kernel
  rw [e]
  simp [right_c]
theorem row_h : parseM (⟨#[104, 116, 116, 112, 58, 47, 97]⟩ : ByteArray).data.toList = none := by decide +kernel
theorem row_i : parseM (⟨#[104, 116, 116, 112, 58, 47, 47, 97, 46, 46, 98, 47]⟩ : ByteArray).data.toList = none := by decide +kernel
theorem right_a : rightM (uM false ⟨#[104, 116, 116, 112]⟩ ⟨#[97, 46, 98]⟩ 0 ⟨#[47, 120, 47, 122]⟩ ⟨#[63, 113]⟩) = true := by decide +kernel
theorem text_a : (⟨#[104, 116, 116, 112, 58, 47, 47, 97, 46, 98, 47, 120, 47, 122, 63, 113]⟩ : ByteArray).data.toList = textM (uM false ⟨#[104, 116, 116, 112]⟩ ⟨#[97, 46, 98]⟩ 0 ⟨#[47, 120, 47, 122]⟩ ⟨#[63, 113]⟩) := by decide +kernel
theorem wrong_z : rightM (uM false ⟨#[]⟩ ⟨#[]⟩ 0 ⟨#[]⟩ ⟨#[]⟩) = false := by decide +kernel

end Go.Proofs.YtlkpdepdflcbcaaDoor
