/- The closure made; is a policy right: the program's. -/
import Derived.Test.YtmlanlagnhnppaaDoorHdC
namespace Go.Proofs.YtmlanlagnhnppaaDoor
open Go.RowKit

set_option maxRecDepth 100000 in
set_option maxHeartbeats 4000000 in
theorem gather_any (Pb : Nat) (r : Bool) (w : World) (hp : w.heap[Pb]? = some (.cells #[.slice none 0 0, .bool r] 29 (0, 0))) : Calls Tryd.prog 23 #[.pointer (some ⟨Pb, 0, none⟩)] w fun e w' => e = .returned (.func (.func 37) #[] #[.pointer (some ⟨w.heap.size + 2, 0, none⟩), .pointer (some ⟨w.heap.size, 0, none⟩)]) ∧ Gat w' w.heap.size Pb (w.heap.size + 3) r [] (.slice none 0 0) [] ∧ Below w.heap.size w w' ∧ w'.heap.size = w.heap.size + 3 := by
  have hmm := @run_makeMap Tryd.prog
  have hmf : ∀ (fn : Fn) (first cap : Array Value) (w : World), (Instr.makeFunc fn first cap).run Tryd.prog w = .ok (.func fn first cap) w := fun _ _ _ _ => rfl
  have hlt := lt_of_block hp
  have HP := Lib.hid hp
  clear hp
  go_enter Tryd.func23, Tryd.ntmps23
  go_wp2
  have b1 : Below w.heap.size w (w.alloc (.cells #[.pointer (some ⟨Pb, 0, none⟩)] 48)) := (Below.refl _ _).alloc (Nat.le_refl _) _
  have x1 := new_block w (.cells #[.pointer (some ⟨Pb, 0, none⟩)] 48)
  have s1 : (w.alloc (.cells #[.pointer (some ⟨Pb, 0, none⟩)] 48)).heap.size = w.heap.size + 1 := by show (w.heap.push _).size = _; simp
  generalize w.alloc (.cells #[.pointer (some ⟨Pb, 0, none⟩)] 48) = w1 at b1 x1 s1 ⊢
  have b2 : Below w1.heap.size w1 (w1.alloc (.map #[] 0)) := (Below.refl _ _).alloc (Nat.le_refl _) _
  have x2 := seen_new w1
  have s2 : (w1.alloc (.map #[] 0)).heap.size = w1.heap.size + 1 := by show (w1.heap.push _).size = _; simp
  rw [s1] at x2
  generalize w1.alloc (.map #[] 0) = w2 at b2 x2 s2 ⊢
  have b3 : Below w2.heap.size w2 (w2.alloc (.cells #[.map (some (w.heap.size + 1))] 60)) := (Below.refl _ _).alloc (Nat.le_refl _) _
  have x3 := new_block w2 (.cells #[.map (some (w.heap.size + 1))] 60)
  have s3 : (w2.alloc (.cells #[.map (some (w.heap.size + 1))] 60)).heap.size = w2.heap.size + 1 := by show (w2.heap.push _).size = _; simp
  have e2 : w2.heap.size = w.heap.size + 2 := by omega
  rw [e2] at x3
  generalize w2.alloc (.cells #[.map (some (w.heap.size + 1))] 60) = w3 at b3 x3 s3 ⊢
  have G : Gat w3 w.heap.size Pb (w.heap.size + 3) r [] (.slice none 0 0) [] :=
    { pbox := by rw [b3.block _ (by omega), b2.block _ (by omega)]; exact x1
      mbox := x3
      seen := x2.kept (b3.block _ (by omega))
      pol := by rw [b3.block _ (by omega), b2.block _ (by omega), b1.block _ hlt]; exact HP.out
      row := World.ownsRow_nil _ _ _ 2
      hR := Nat.le_refl _
      hP := by omega
      apart := ⟨by omega, by omega, by omega⟩ }
  have hB : Below w.heap.size w w3 := b1.trans ((b2.mono (by omega)).trans (b3.mono (by omega)))
  have hsz : w3.heap.size = w.heap.size + 3 := by omega
  have HF := Lib.hid (And.intro G (And.intro hB hsz))
  clear b1 x1 s1 b2 x2 s2 b3 x3 s3 e2 G hB hsz hmm hmf
  go_ret
  exact ⟨rfl, HF.out.1, HF.out.2.1, HF.out.2.2⟩

/-- The first directives are right, each by itself and beside the others. -/
def SoFar (ds : List D) (k : Nat) : Prop := (∀ d ∈ ds.take k, dirR d = true) ∧ onceM (ds.take k)
theorem SoFar.zero (ds : List D) : SoFar ds 0 := ⟨by simp, by unfold onceM; simp⟩
theorem SoFar.succ {ds : List D} {k : Nat} (h : SoFar ds k) (hk : k < ds.length) (h1 : dirR ds[k] = true) (h2 : ¬ ds[k].n ∈ (ds.take k).map D.n) : SoFar ds (k + 1) := by
  unfold SoFar
  rw [List.take_succ_eq_append_getElem hk]
  refine ⟨fun d hd => ?_, ?_⟩
  · rcases List.mem_append.1 hd with hd | hd
    · exact h.1 d hd
    · rw [List.mem_singleton.1 hd]; exact h1
  · unfold onceM
    rw [List.pairwise_append]
    exact ⟨h.2, List.pairwise_singleton _ _, fun a ha b hb => by rw [List.mem_singleton.1 hb]; intro e; exact h2 (List.mem_map.2 ⟨a, ha, e⟩)⟩
theorem SoFar.all {ds : List D} (h : SoFar ds ds.length) (h0 : ds ≠ []) : rightH ds := by
  unfold SoFar at h
  rw [List.take_length] at h
  exact ⟨h0, h.1, h.2⟩
theorem not_right_name {ds : List D} {k : Nat} (hk : k < ds.length) (h : nameH ds[k].n = false ∨ (nameH ds[k].n = true ∧ ds[k].n ∈ (ds.take k).map D.n)) : ¬ rightH ds := by
  rcases h with h | ⟨_, h⟩
  · exact not_right_dir hk (by unfold dirR; rw [h]; rfl)
  · obtain ⟨d, hd, he⟩ := List.mem_map.1 h
    obtain ⟨i, hi, rfl⟩ := List.getElem_of_mem hd
    have hi2 : i < k := by rw [List.length_take] at hi; omega
    rw [List.getElem_take] at he
    exact not_right_two hk hi2 he

set_option maxRecDepth 100000 in
set_option maxHeartbeats 8000000 in
/-- Is a policy right? -/
theorem isRight_any (ds : List D) (dv : Value) (r : Bool) (w : World) (hd : DirsIn w dv ds) (hl : ds.length ≤ 1000000) (hws : ∀ d ∈ ds, d.n.length ≤ 1000000000 ∧ d.w.length ≤ 1000000 ∧ ∀ x ∈ d.w, x.length ≤ 1000000000) :
    Calls Tryd.prog 32 #[polV dv r] w fun e w' => e = .returned (.bool (decide (rightH ds))) ∧ Below w.heap.size w w' := by
  obtain ⟨a, c, rfl⟩ := hd.form
  unfold polV
  have x0 := new_block w (.cells #[.slice a ds.length c, .bool r] 29)
  have b0 : Below w.heap.size w (w.alloc (.cells #[.slice a ds.length c, .bool r] 29)) := (Below.refl _ _).alloc (Nat.le_refl _) _
  have s0 : (w.alloc (.cells #[.slice a ds.length c, .bool r] 29)).heap.size = w.heap.size + 1 := by show (w.heap.push _).size = _; simp
  have x1 := new_block (w.alloc (.cells #[.slice a ds.length c, .bool r] 29)) (.cells #[.slice none 0 0, .bool false] 29)
  have b1 : Below (w.heap.size + 1) (w.alloc (.cells #[.slice a ds.length c, .bool r] 29)) ((w.alloc (.cells #[.slice a ds.length c, .bool r] 29)).alloc (.cells #[.slice none 0 0, .bool false] 29)) := (Below.refl _ _).alloc (by omega) _
  have s1 : ((w.alloc (.cells #[.slice a ds.length c, .bool r] 29)).alloc (.cells #[.slice none 0 0, .bool false] 29)).heap.size = w.heap.size + 2 := by show ((w.alloc _).heap.push _).size = _; rw [Array.size_push, s0]
  rw [s0] at x1
  have hd2 := hd.below (b0.trans (b1.mono (Nat.le_succ _)))
  have H0 : Hid (((w.alloc (.cells #[.slice a ds.length c, .bool r] 29)).alloc (.cells #[.slice none 0 0, .bool false] 29)).heap[w.heap.size]? = some (.cells #[.slice a ds.length c, .bool r] 29 (0, 0))) := Lib.hid (by rw [b1.block _ (Nat.lt_succ_self _)]; exact x0)
  have CG := gather_any (w.heap.size + 1) false _ x1
  rw [s1] at CG
  have HCG := Lib.hid CG
  have HBB := Lib.hid (b0.trans (b1.mono (Nat.le_succ _)))
  have HD := Lib.hid hd2
  have HDW := Lib.hid hd
  have HWS := Lib.hid hws
  have HS1 := Lib.hid s1
  clear x0 b0 x1 b1 hd hd2 hws CG s1 s0
  go_enter Tryd.func32, Tryd.ntmps32
  go_wp2_with fail
  refine HCG.out.mono ?_
  rintro e w3 ⟨rfl, G3, B3, S3⟩
  have hd3 := HD.out.below (by rw [HS1.out]; exact B3)
  have x3 : w3.heap[w.heap.size]? = some (.cells #[.slice a ds.length c, .bool r] 29 (0, 0)) := by rw [B3.block _ (by omega)]; exact H0.out
  have hb3 := HBB.out.trans (B3.mono (by omega))
  have q0 : w3.cell? ⟨w.heap.size, 0, none⟩ = some (.slice a ds.length c) := by rw [cell_of x3]; rfl
  have HD3 := Lib.hid (And.intro hd3 (And.intro x3 hb3))
  have HG3 := Lib.hid (And.intro G3 S3)
  clear HD H0 HBB hd3 x3 hb3 B3 G3 S3 HS1 HCG
  go_wp2_with fail
  generalize hR : w.heap.size = R0 at HD3 HG3 q0 ⊢
  have HR := Lib.hid hR
  clear hR
  have hg0 : Gat w3 (R0 + 2) (R0 + 1) (R0 + 2 + 3) false ((ds.take 0).map D.n) (.slice none 0 0) [] := HG3.out.1
  go_loopw [12] (fun i wr => ∃ (k : Nat) (v : Value) (cs : List Value), k ≤ ds.length ∧ i = .int .i64 k ∧ Gat wr (R0 + 2) (R0 + 1) (R0 + 2 + 3) false ((ds.take k).map D.n) v cs ∧ Below (R0 + 1) w3 wr ∧ R0 + 5 ≤ wr.heap.size ∧ Hid (SoFar ds k)) (fun i _ => ds.length - (intOf i).toNat)
  case atStart => exact ⟨0, _, _, Nat.zero_le _, rfl, hg0, Below.refl _ _, by have := HG3.out.2; omega, Lib.hid (SoFar.zero ds)⟩
  case round =>
    clear hg0
    obtain ⟨k, v, cs, hk, rfl, hg, hb, hsz, HF⟩ := hrel
    have hb0 : Below R0 w wr := HD3.out.2.2.trans (hb.mono (by omega))
    have HB0 := Lib.hid hb0
    have q1 : wr.cell? ⟨R0, 0, none⟩ = some (.slice a ds.length c) := by rw [hb.cell (show R0 < R0 + 1 by omega)]; exact q0
    clear hb0 q0
    by_cases hlt : k < ds.length
    · obtain ⟨B, off, u, rfl, kw1, kw2, kw3⟩ := HDW.out.at hlt
      have hbw : Below w.heap.size w wr := by rw [HR.out]; exact HB0.out
      have k1 : wr.cell? ⟨B, off + k * 2, none⟩ = some (strV ds[k].n) := by rw [hbw.cell (lt_of_cell kw1)]; exact kw1
      have k2 : wr.cell? ⟨B, off + k * 2 + 1, none⟩ = some u := by rw [hbw.cell (lt_of_cell kw2)]; exact kw2
      obtain ⟨hw0, hw1, hw2⟩ := HWS.out _ (List.getElem_mem hlt)
      obtain ⟨ua, uc, rfl⟩ := kw3.form
      have HKW := Lib.hid kw3
      have HSU : Hid (dirR ds[k] = true → ¬ ds[k].n ∈ (ds.take k).map D.n → SoFar ds (k + 1)) := Lib.hid (fun h1 h2 => HF.out.succ hlt h1 h2)
      have HNN : Hid (nameH ds[k].n = false ∨ (nameH ds[k].n = true ∧ ds[k].n ∈ (ds.take k).map D.n) → ¬ rightH ds) := Lib.hid (not_right_name hlt)
      have HND : Hid (dirR ds[k] = false → ¬ rightH ds) := Lib.hid (not_right_dir hlt)
      have HTK : Hid ((ds.take (k + 1)).map D.n = (ds.take k).map D.n ++ [ds[k].n]) := Lib.hid (by rw [List.take_succ_eq_append_getElem hlt, List.map_append]; rfl)
      have hnl : ((ds.take k).map D.n).length ≤ 1000000000 := by rw [List.length_map, List.length_take]; omega
      clear HF kw1 kw2 kw3 hbw
      generalize ds[k] = d at *
      unfold strV at k1
      obtain ⟨X, hX⟩ : ∃ X : ByteArray, X = ⟨d.n.toArray⟩ := ⟨_, rfl⟩
      rw [← hX] at k1
      have hXd : X.data.toList = d.n := by rw [hX]
      have hXs : X.size ≤ 1099511627776 := by rw [← lsize, hXd]; omega
      -- the directive's own block
      have ba : Below wr.heap.size wr (wr.alloc (.cells #[.string X, .slice ua d.w.length uc] 42)) := (Below.refl _ _).alloc (Nat.le_refl _) _
      have xa := new_block wr (.cells #[.string X, .slice ua d.w.length uc] 42)
      have ga := hg.keep ba
      have sa : (wr.alloc (.cells #[.string X, .slice ua d.w.length uc] 42)).heap.size = wr.heap.size + 1 := by show (wr.heap.push _).size = _; simp
      have HOB : Hid (∀ q, v.ownBlock = some q → R0 + 5 ≤ q ∧ q < wr.heap.size) := Lib.hid hg.row.lt
      have q2 : (wr.alloc (.cells #[.string X, .slice ua d.w.length uc] 42)).cell? ⟨wr.heap.size, 0, none⟩ = some (.string X) := by rw [cell_of xa]; rfl
      have q3 : (wr.alloc (.cells #[.string X, .slice ua d.w.length uc] 42)).cell? ⟨wr.heap.size, 1, none⟩ = some (.slice ua d.w.length uc) := by rw [cell_of xa]; rfl
      have HBA := Lib.hid (And.intro (HB0.out.trans (ba.mono (by omega))) (And.intro (hb.trans (ba.mono (by omega))) sa))
      by_cases hno : nameH d.n = false ∨ (nameH d.n = true ∧ d.n ∈ (ds.take k).map D.n)
      · have HR1 : Hid (false = decide (rightH ds)) := Lib.hid (decide_eq_false (HNN.out hno)).symm
        have CT := Lib.hid (take_no X hXs ua d.w.length uc _ (R0 + 2) (R0 + 1) (R0 + 2 + 3) false _ v cs ga (by rw [hXd]; exact hno))
        clear HSU HNN HND HTK hnl hX hXd hXs ba xa ga sa HOB hno hg hb
        go_wp2_with fail
        generalize wr.alloc (.cells #[.string X, .slice ua d.w.length uc] 42) = wa at CT HBA q2 q3 ⊢
        go_wp2_with (go_at_call 37; (with_reducible refine CT.out.mono ?_); rintro e w5 ⟨rfl, b5⟩
                     have HB5 : Aside (Below R0 w w5) := HBA.out.1.trans (b5.mono (by have := HBA.out.2.2; omega))
                     clear b5)
        go_ret
        exact ⟨ret_bool HR1.out, by rw [HR.out]; exact HB5.out⟩
      · have hnm : nameH d.n = true := by
          cases h : nameH d.n
          · exact absurd (.inl h) hno
          · rfl
        have hni : ¬ d.n ∈ (ds.take k).map D.n := fun h => hno (.inr ⟨hnm, h⟩)
        have CT := Lib.hid (take_yes X hXs ua d.w.length uc _ (R0 + 2) (R0 + 1) (R0 + 2 + 3) false _ v cs ga (by rw [hXd]; exact hnm) (by rw [hXd]; exact hni) (by omega) hnl)
        obtain ⟨rb, hrb⟩ : ∃ rb, (decide (d.w.length ≤ 200) && d.w.all wordH) = rb := ⟨_, rfl⟩
        have hdr : dirR d = rb := by unfold dirR; rw [hnm, ← hrb]; rfl
        have CA : Hid (∀ W, TextsIn W (.slice ua d.w.length uc) d.w → Calls Tryd.prog 46 #[.slice ua d.w.length uc] W fun e w' => e = .returned (.bool rb) ∧ W = w') := Lib.hid (fun W h => by rw [← hrb]; exact areWords_any d.w _ W h hw1 hw2)
        have HXA := Lib.hid xa
        have HXD := Lib.hid hXd
        rw [hdr] at HSU HND
        have HNI := Lib.hid hni
        clear hnl hX hXd hXs ba xa ga sa hno hg hb hnm hni hrb hdr HNN hw0 hw2
        go_wp2_with fail
        generalize wr.alloc (.cells #[.string X, .slice ua d.w.length uc] 42) = wa at CT HBA HXA q2 q3 ⊢
        cases rb
        · have HR1 : Hid (false = decide (rightH ds)) := Lib.hid (decide_eq_false (HND.out rfl)).symm
          go_wp2_with (first
            | (go_at_call 37; (with_reducible refine CT.out.mono ?_); rintro e w5 ⟨rfl, v5, g5, t5, o5⟩
               have hob : ∀ q, v.ownBlock = some q → R0 + 1 ≤ q := fun q hq => by have := (HOB.out q hq).1; omega
               have b5 : Below (R0 + 1) wa w5 := t5.below (by have := HBA.out.2.2; omega) (Nat.le_refl _) (by omega) hob
               have x5 : w5.heap[wr.heap.size]? = some (.cells #[.string X, .slice ua d.w.length uc] 42 (0, 0)) := by
                 rw [t5.block _ (lt_of_block HXA.out) (by omega) (by omega) (fun e => by have := (HOB.out _ e.symm).2; omega)]; exact HXA.out
               have q5 : w5.cell? ⟨wr.heap.size, 1, none⟩ = some (.slice ua d.w.length uc) := by rw [cell_of x5]; rfl
               have b05 : Below R0 w w5 := HBA.out.1.trans (b5.mono (by omega))
               have HT5 : Aside (TextsIn w5 (.slice ua d.w.length uc) d.w ∧ Below R0 w w5) := ⟨HKW.out.below (by rw [HR.out]; exact b05), b05⟩
               clear hob b5 b05 x5 g5 t5 o5)
            | (go_at_call 46; (with_reducible refine (CA.out _ HT5.out.1).mono ?_); rintro e w5 ⟨rfl, rfl⟩))
          go_ret
          exact ⟨ret_bool HR1.out, by rw [HR.out]; exact HT5.out.2⟩
        · have HSS : Hid (SoFar ds (k + 1)) := Lib.hid (HSU.out rfl HNI.out)
          go_wp2_with (first
            | (go_at_call 37; (with_reducible refine CT.out.mono ?_); rintro e w5 ⟨rfl, v5, g5, t5, o5⟩
               have hob : ∀ q, v.ownBlock = some q → R0 + 1 ≤ q := fun q hq => by have := (HOB.out q hq).1; omega
               have b5 : Below (R0 + 1) wa w5 := t5.below (by have := HBA.out.2.2; omega) (Nat.le_refl _) (by omega) hob
               have x5 : w5.heap[wr.heap.size]? = some (.cells #[.string X, .slice ua d.w.length uc] 42 (0, 0)) := by
                 rw [t5.block _ (lt_of_block HXA.out) (by omega) (by omega) (fun e => by have := (HOB.out _ e.symm).2; omega)]; exact HXA.out
               have q5 : w5.cell? ⟨wr.heap.size, 1, none⟩ = some (.slice ua d.w.length uc) := by rw [cell_of x5]; rfl
               have b05 : Below R0 w w5 := HBA.out.1.trans (b5.mono (by omega))
               have HT5 : Aside (TextsIn w5 (.slice ua d.w.length uc) d.w ∧ Below R0 w w5) := ⟨HKW.out.below (by rw [HR.out]; exact b05), b05⟩
               have HG5 : Aside (Gat w5 (R0 + 2) (R0 + 1) (R0 + 2 + 3) false ((ds.take (k + 1)).map D.n) v5 (cs ++ [.string X, .slice ua d.w.length uc]) ∧ Below (R0 + 1) w3 w5 ∧ R0 + 5 ≤ w5.heap.size) :=
                 ⟨by rw [HTK.out, ← HXD.out]; exact g5, HBA.out.2.1.trans b5, by have := HBA.out.2.2; have := t5.size; omega⟩
               clear hob b5 b05 x5 g5 t5 o5)
            | (go_at_call 46; (with_reducible refine (CA.out _ HT5.out.1).mono ?_); rintro e w5 ⟨rfl, rfl⟩))
          go_roundw
          case rel => exact ⟨k + 1, _, _, by omega, by go_num, HG5.out.1, HG5.out.2.1, HG5.out.2.2, HSS⟩
          case measure => simp [intOf]; omega
    · obtain rfl : k = ds.length := by omega
      have hgr : Hid (decide (rightH ds) = decide (0 < ds.length)) := Lib.hid (by
        by_cases h0 : ds = []
        · subst h0
          rw [decide_eq_false (fun h => h.1 rfl)]; rfl
        · rw [decide_eq_true (HF.out.all h0), decide_eq_true]
          exact List.length_pos_iff.2 h0)
      clear hg hb HF
      go_wp2
      go_ret
      exact ⟨ret_bool hgr.out.symm, by rw [HR.out]; exact HB0.out⟩

end Go.Proofs.YtmlanlagnhnppaaDoor
