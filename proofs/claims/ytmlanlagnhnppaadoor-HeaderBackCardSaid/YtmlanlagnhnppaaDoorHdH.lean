/- A directive found by its name: the program's. -/
import Derived.Test.YtmlanlagnhnppaaDoorPols
namespace Go.Proofs.YtmlanlagnhnppaaDoor
open Go.RowKit

set_option maxRecDepth 100000 in
set_option maxHeartbeats 1000000 in
theorem named_any (N S : ByteArray) (a : Option Addr) (m c : Nat) (Sb : Nat) (w : World) (hx : w.cell? ⟨Sb, 0, none⟩ = some (.string S)) :
    Calls Tryd.prog 31 #[.agg #[.string N, .slice a m c], .pointer (some ⟨Sb, 0, none⟩)] w fun e w' => e = .returned (.bool (decide (N.data.toList = S.data.toList))) ∧ Below w.heap.size w w' := by
  have g1 := text_eq N S
  obtain ⟨b, hb⟩ : ∃ b, decide (N.data.toList = S.data.toList) = b := ⟨_, rfl⟩
  rw [hb] at g1 ⊢
  have B1 : Below w.heap.size w (w.alloc (.cells #[.string N, .slice a m c] 42)) := (Below.refl _ _).alloc (Nat.le_refl _) _
  have x1 := new_block w (.cells #[.string N, .slice a m c] 42)
  have q1 : (w.alloc (.cells #[.string N, .slice a m c] 42)).cell? ⟨w.heap.size, 0, none⟩ = some (.string N) := by rw [cell_of x1]; rfl
  have q2 : (w.alloc (.cells #[.string N, .slice a m c] 42)).cell? ⟨Sb, 0, none⟩ = some (.string S) := by rw [B1.cell (lt_of_cell hx)]; exact hx
  have HB := Lib.hid B1
  clear B1 x1 hx hb
  go_enter Tryd.func31, Tryd.ntmps31
  go_wp2_with fail
  generalize w.alloc (.cells #[.string N, .slice a m c] 42) = w1 at HB q1 q2 ⊢
  go_wp2
  go_ret
  exact ⟨rfl, HB.out⟩

/-- Where a name is first. -/
def FirstAt (ds : List D) (t : List UInt8) (z : Int) : Prop := (∃ k : Nat, z = (k : Int) ∧ ∃ h : k < ds.length, ds[k].n = t ∧ ∀ j, (h : j < ds.length) → j < k → ds[j].n ≠ t) ∨ (z = -1 ∧ ∀ j, (h : j < ds.length) → ds[j].n ≠ t)
set_option maxRecDepth 100000 in
set_option maxHeartbeats 2000000 in
theorem index_any (ds : List D) (dv : Value) (S : ByteArray) (Sb : Nat) (w : World) (hd : DirsIn w dv ds) (hl : ds.length ≤ 1000000) (hx : w.cell? ⟨Sb, 0, none⟩ = some (.string S)) :
    Calls Tryd.prog 30 #[dv, .func (.func 31) #[] #[.pointer (some ⟨Sb, 0, none⟩)]] w fun e w' => (∃ z, e = .returned (.int .i64 z) ∧ FirstAt ds S.data.toList z) ∧ Below w.heap.size w w' := by
  obtain ⟨a, c, rfl⟩ := hd.form
  have HD := Lib.hid hd
  have HX := Lib.hid hx
  clear hd hx
  go_enter Tryd.func30, Tryd.ntmps30
  go_wp2
  go_loopw [8] (fun i wr => ∃ k : Nat, k ≤ ds.length ∧ i = .int .i64 k ∧ Hid (∀ j, (h : j < ds.length) → j < k → ds[j].n ≠ S.data.toList) ∧ Below w.heap.size w wr) (fun i _ => ds.length - (intOf i).toNat)
  case atStart => exact ⟨0, Nat.zero_le _, rfl, fun j _ h => absurd h (Nat.not_lt_zero _), Below.refl _ _⟩
  case round =>
    obtain ⟨k, hk, rfl, HS, hb⟩ := hrel
    by_cases hlt : k < ds.length
    · obtain ⟨B, off, u, rfl, k1, k2, k3⟩ := (HD.out.below hb).at hlt
      obtain ⟨ua, uc, rfl⟩ := k3.form
      have HF : Hid (ds[k].n = S.data.toList → FirstAt ds S.data.toList (k : Int)) := Lib.hid fun h => .inl ⟨k, rfl, hlt, h, HS.out⟩
      have HN : Hid (ds[k].n ≠ S.data.toList → ∀ j, (h : j < ds.length) → j < k + 1 → ds[j].n ≠ S.data.toList) := Lib.hid fun h j hj hjk => by
        by_cases e : j = k
        · subst e; exact h
        · exact HS.out j hj (by omega)
      unfold strV at k1
      generalize ds[k] = d at *
      obtain ⟨X, hX⟩ : ∃ X : ByteArray, X = ⟨d.n.toArray⟩ := ⟨_, rfl⟩
      rw [← hX] at k1
      have hXd : X.data.toList = d.n := by rw [hX]
      have CN : Hid (∀ W, Below w.heap.size w W → Calls Tryd.prog 31 #[.agg #[.string X, .slice ua d.w.length uc], .pointer (some ⟨Sb, 0, none⟩)] W fun e w' => e = .returned (.bool (decide (X.data.toList = S.data.toList))) ∧ Below W.heap.size W w') := Lib.hid fun W hW => named_any X S ua d.w.length uc Sb W (by rw [hW.cell (lt_of_cell HX.out)]; exact HX.out)
      rw [hXd] at CN
      have HB := Lib.hid hb
      clear HS hX hXd k3 hb
      by_cases he : d.n = S.data.toList
      · have HG := Lib.hid (HF.out he)
        rw [decide_eq_true he] at CN
        clear HF HN he
        go_wp2_with (go_at_call 31; (with_reducible refine (CN.out _ HB.out).mono ?_); rintro e w5 ⟨rfl, b5⟩
                     have H5 : Aside (Below w.heap.size w w5) := HB.out.trans (b5.mono HB.out.size)
                     clear b5)
        go_ret
        exact ⟨⟨_, rfl, HG.out⟩, H5.out⟩
      · have HM := Lib.hid (HN.out he)
        rw [decide_eq_false he] at CN
        clear HF HN he
        go_wp2_with (go_at_call 31; (with_reducible refine (CN.out _ HB.out).mono ?_); rintro e w5 ⟨rfl, b5⟩
                     have H5 : Aside (Below w.heap.size w w5) := HB.out.trans (b5.mono HB.out.size)
                     clear b5)
        go_roundw
        case rel => exact ⟨k + 1, by omega, by go_num, HM, H5.out⟩
        case measure => simp [intOf]; omega
    · obtain rfl : k = ds.length := by omega
      have HG : Hid (FirstAt ds S.data.toList (-1)) := Lib.hid (.inr ⟨rfl, fun j hj => HS.out j hj hj⟩)
      clear HS
      go_wp2
      go_ret
      exact ⟨⟨_, rfl, HG.out⟩, hb⟩

/-- What is found, in a row of its own. -/
def FindPost (ds : List D) (name : List UInt8) (w : World) (e : Ending) (w' : World) : Prop := Below w.heap.size w w' ∧ ((findM ds name = none ∧ e = .returned (.tuple #[.slice none 0 0, .bool false])) ∨ ∃ ws v, findM ds name = some ws ∧ e = .returned (.tuple #[v, .bool true]) ∧ w'.ownsRow w.heap.size 9 1 v ws.length (txtCells ws))
set_option maxRecDepth 100000 in
set_option maxHeartbeats 4000000 in
theorem find_any (ds : List D) (dv : Value) (r : Bool) (name : ByteArray) (w : World) (hd : DirsIn w dv ds) (hl : ds.length ≤ 1000000) (hws : ∀ d ∈ ds, d.w.length ≤ 1000000) (hn : name.size ≤ 1099511627776) :
    Calls Tryd.prog 15 #[polV dv r, .string name] w (FindPost ds name.data.toList w) := by
  have hmf : ∀ (fn : Fn) (first cap : Array Value) (w : World), (Instr.makeFunc fn first cap).run Tryd.prog w = .ok (.func fn first cap) w := fun _ _ _ _ => rfl
  obtain ⟨T, hT⟩ := text_of (low name.data.toList)
  have CL := lower_hid name T hT hn
  have HF : Hid (findM ds name.data.toList = (ds.find? (fun d => d.n == T.data.toList)).map D.w) := Lib.hid (by unfold findM; rw [hT])
  obtain ⟨a, c, rfl⟩ := hd.form
  unfold polV
  have HDW := Lib.hid hd
  have x1 := new_block w (.cells #[.slice a ds.length c, .bool r] 29)
  have B1 : Below w.heap.size w (w.alloc (.cells #[.slice a ds.length c, .bool r] 29)) := (Below.refl _ _).alloc (Nat.le_refl _) _
  have H1 := Lib.hid (And.intro x1 B1)
  clear hT hd x1 B1
  go_enter Tryd.func15, Tryd.ntmps15
  go_wp2_with fail
  generalize w.alloc (.cells #[.slice a ds.length c, .bool r] 29) = w1 at H1 ⊢
  refine (CL.out _).mono ?_
  rintro e w2 ⟨rfl, b2⟩
  have x2 : w2.heap[w.heap.size]? = some (.cells #[.slice a ds.length c, .bool r] 29 (0, 0)) := by rw [b2.block _ (lt_of_block H1.out.1)]; exact H1.out.1
  have B2 := H1.out.2.trans (b2.mono (Nat.le_of_lt (lt_of_block H1.out.1)))
  have b3 : Below w2.heap.size w2 (w2.alloc (.cells #[.string T] 9)) := (Below.refl _ _).alloc (Nat.le_refl _) _
  have x3 := new_block w2 (.cells #[.string T] 9)
  have q3 : (w2.alloc (.cells #[.string T] 9)).cell? ⟨w2.heap.size, 0, none⟩ = some (.string T) := by rw [cell_of x3]; rfl
  have y3 : (w2.alloc (.cells #[.string T] 9)).heap[w.heap.size]? = some (.cells #[.slice a ds.length c, .bool r] 29 (0, 0)) := by rw [b3.block _ (lt_of_block x2)]; exact x2
  have B3 : Below w.heap.size w (w2.alloc (.cells #[.string T] 9)) := B2.trans (b3.mono B2.size)
  have c0 : (w2.alloc (.cells #[.string T] 9)).cell? ⟨w.heap.size, 0, none⟩ = some (.slice a ds.length c) := by rw [cell_of y3]; rfl
  have CI := index_any ds (.slice a ds.length c) T w2.heap.size (w2.alloc (.cells #[.string T] 9)) (HDW.out.below B3) hl q3
  have HCI := Lib.hid CI
  have H3 := Lib.hid (And.intro y3 B3)
  clear b2 x2 B2 b3 x3 y3 B3 q3 CI CL H1
  go_wp2_with fail
  generalize w2.alloc (.cells #[.string T] 9) = w3 at HCI H3 c0 ⊢
  go_wp2_with fail
  refine HCI.out.mono ?_
  rintro e w4 ⟨⟨z, rfl, hz⟩, b4⟩
  have y4 : w4.heap[w.heap.size]? = some (.cells #[.slice a ds.length c, .bool r] 29 (0, 0)) := by rw [b4.block _ (lt_of_block H3.out.1)]; exact H3.out.1
  have B4 : Below w.heap.size w w4 := H3.out.2.trans (b4.mono H3.out.2.size)
  have c4 : w4.cell? ⟨w.heap.size, 0, none⟩ = some (.slice a ds.length c) := by rw [cell_of y4]; rfl
  have H4 := Lib.hid B4
  rcases hz with ⟨k, rfl, hlt, h1, h2⟩ | ⟨rfl, h1⟩
  · obtain ⟨B, off, u, rfl, k1, k2, k3⟩ := (HDW.out.below B4).at hlt
    have HG : Hid (findM ds name.data.toList = some ds[k].w) := Lib.hid (by rw [HF.out, find_at hlt h2 h1]; rfl)
    have hw := hws _ (List.getElem_mem hlt)
    generalize ds[k] = d at *
    have hz0 : ¬ ((k : Int) < 0) := by omega
    have bA : Below w4.heap.size w4 (w4.alloc (.cells #[] 9)) := (Below.refl _ _).alloc (Nat.le_refl _) _
    have own0 : (w4.alloc (.cells #[] 9)).ownsRow w.heap.size 9 1 (.slice (some ⟨w4.heap.size, 0, none⟩) 0 0) 0 [] := World.ownsRow_made w4 #[] 0 B4.size (Nat.zero_le _) rfl
    have HO := Lib.hid own0
    have HK := Lib.hid (k3.below bA)
    have HB := Lib.hid (B4.trans (bA.mono B4.size))
    have k2' : (w4.alloc (.cells #[] 9)).cell? ⟨B, off + k * 2 + 1, none⟩ = some u := by rw [bA.cell (lt_of_cell k2)]; exact k2
    have c5 : (w4.alloc (.cells #[] 9)).cell? ⟨w.heap.size, 0, none⟩ = some (.slice (some ⟨B, off, none⟩) ds.length c) := by rw [bA.cell (lt_of_cell c4)]; exact c4
    have hsz : w.heap.size ≤ (w4.alloc (.cells #[] 9)).heap.size := HB.out.size
    obtain ⟨ua, uc, rfl⟩ := k3.form
    clear HF h1 h2 y4 B4 b4 k1 k3 own0 bA HCI H3 c0
    go_wp2_with (at_builtin; refine wpList_append_in rfl _ _ rfl w.heap.size _ 0 [] rfl HO.out _ d.w rfl HK.out (by omega) hsz ?_; intro v1 w5 hown5 hgr5
                 have X : Aside (w5.ownsRow w.heap.size 9 1 v1 d.w.length (txtCells d.w) ∧ Below w.heap.size w w5) := ⟨by rw [Nat.zero_add] at hown5; exact hown5, Below.grown HB.out hgr5 hsz (fun q hq => (HO.out.lt q hq).1)⟩
                 clear hown5 hgr5)
    go_ret2
    exact ⟨X.out.2, .inr ⟨d.w, v1, HG.out, rfl, X.out.1⟩⟩
  · have HG : Hid (findM ds name.data.toList = none) := Lib.hid (by
      rw [HF.out, List.find?_eq_none.2 (fun x hx => ?_)]
      · rfl
      · obtain ⟨j, hj, rfl⟩ := List.getElem_of_mem hx
        simpa using h1 j hj)
    clear HF h1 y4 B4 b4 HCI H3 c0
    go_wp2
    go_ret2
    exact ⟨H4.out, .inl ⟨HG.out, rfl⟩⟩

end Go.Proofs.YtmlanlagnhnppaaDoor
