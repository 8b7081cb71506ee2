/- The library's Index and Delete at numbers, a number struck from a row of one's own. The program's nodes: one is taken from where it stands; one is laid below another one. The program's nodes: one is laid below another one, last. -/
import Derived.Laws.IdiomCopy
import Derived.Test.YtcmbkhlnigbooaaDoST
import Derived.Test.YtcmbkhlnigbooaaPdOQ
namespace Go.Proofs.Ytcmbkhlnigbooaa.Dm
open Go.RowKit

/-! ### Index -/
/-- The first place of y in C; -1: it is not there. -/
def IdxP (C : List Int) (y : Int) (r : Int) : Prop := (r = -1 ∧ y ∉ C) ∨ ∃ i : Nat, r = i ∧ ∃ h : i < C.length, C[i] = y
set_option maxRecDepth 100000 in
set_option maxHeartbeats 2000000 in
theorem index_hid (C : List Int) (y : Int) (hl : C.length ≤ 100000) : Hid (∀ W kv, IntIn W kv C → Calls Try.prog 88 #[kv, .int .i64 y] W fun e w' => (∃ r, e = .returned (.int .i64 r) ∧ IdxP C y r) ∧ w' = W) := Lib.hid fun w kv hk => by
  obtain ⟨a, c, rfl⟩ := hk.form
  have HK := Lib.hid hk
  clear hk
  go_enter Try.func88, Try.ntmps88
  go_wp2
  go_loopw [5, 8] (fun _ j wr => ∃ k : Nat, j = .int .i64 k ∧ k ≤ C.length ∧ Hid (∀ i, (h : i < C.length) → i < k → C[i] ≠ y) ∧ wr = w) (fun _ j _ => C.length - (intOf j).toNat)
  case atStart => exact ⟨0, rfl, Nat.zero_le _, Lib.hid fun i _ h => by omega, rfl⟩
  case round =>
    obtain ⟨k, rfl, hk, HN, rfl⟩ := hrel
    by_cases hlt : k < C.length
    · have zk : (k : Int) < (C.length : Int) := by omega
      obtain ⟨B, off, rfl, c0⟩ := HK.out.at hlt
      by_cases he : C[k] = y
      · have HF : Hid (IdxP C y (k : Int)) := Lib.hid (.inr ⟨k, rfl, hlt, he⟩)
        rw [he] at c0
        clear he HN
        go_wp2
        go_ret
        exact ⟨⟨_, rfl, HF.out⟩, rfl⟩
      · have hb : (y == C[k]) = false := beq_eq_false_iff_ne.2 (fun e => he e.symm)
        have HN2 : Hid (∀ i, (h : i < C.length) → i < k + 1 → C[i] ≠ y) := Lib.hid fun i hi h2 => by
          by_cases e : i = k
          · subst e
            exact he
          · exact HN.out i hi (by omega)
        clear he HN
        go_wp2
        go_roundw
        case rel => exact ⟨k + 1, by go_num, by omega, HN2, trivial⟩
        case measure => simp [intOf]; omega
    · obtain rfl : k = C.length := by omega
      have HF : Hid (IdxP C y (-1)) := Lib.hid (.inl ⟨rfl, fun h => by
        obtain ⟨i, hi, e⟩ := List.mem_iff_getElem.1 h
        exact HN.out i hi hi e⟩)
      clear HN
      go_wp2
      go_ret
      exact ⟨⟨_, rfl, HF.out⟩, rfl⟩

/-! ### cells set one behind the other -/
def setsL : List Value → Nat → List Value → List Value
  | xs, _, [] => xs
  | xs, o, v :: vs => setsL (xs.set o v) (o + 1) vs
theorem setsL_get : ∀ (vs : List Value) (o : Nat) (xs : List Value) (k : Nat), o + vs.length ≤ xs.length → (setsL xs o vs)[k]? = if o ≤ k ∧ k < o + vs.length then vs[k - o]? else xs[k]?
  | [], o, xs, k, _ => by
    rw [if_neg (fun h => by have := h.2; simp at this; omega)]
    rfl
  | v :: vs, o, xs, k, h => by
    simp only [List.length_cons] at h
    show (setsL (xs.set o v) (o + 1) vs)[k]? = _
    rw [setsL_get vs (o + 1) _ k (by rw [List.length_set]; omega)]
    by_cases h1 : k = o
    · subst h1
      rw [if_neg (by omega), if_pos (by simp), List.getElem?_set_self (by omega), Nat.sub_self]
      rfl
    · by_cases h2 : o + 1 ≤ k ∧ k < o + 1 + vs.length
      · rw [if_pos h2, if_pos (by simp; omega), show k - o = (k - (o + 1)) + 1 by omega, List.getElem?_cons_succ]
      · rw [if_neg h2, if_neg (by simp; omega), List.getElem?_set_ne (by omega)]
theorem sets_row {B g cap n : Nat} {e : TypeId} : ∀ (vs : List Value) (o : Nat) (w : World) (xs : List Value), w.ownsRow B e 1 (.slice (some ⟨g, 0, none⟩) n cap) n xs → (w.setCells g o vs).ownsRow B e 1 (.slice (some ⟨g, 0, none⟩) n cap) n (setsL xs o vs) ∧ Kp (fun k _ => k = g) w (w.setCells g o vs)
  | [], _, w, _, h => ⟨h, Kp.refl _ w⟩
  | v :: vs, o, w, xs, h => by
    obtain ⟨cur, hg, _⟩ := row_open h
    obtain ⟨h1, h2⟩ := sets_row vs (o + 1) _ _ (ownsRow_set h o v)
    exact ⟨h1, (Kp.of_set hg v rfl).trans h2⟩
theorem row_short {w : World} {B g cap n m : Nat} {e : TypeId} {xs : List Value} (h : w.ownsRow B e 1 (.slice (some ⟨g, 0, none⟩) n cap) n xs) (hm : m ≤ n) : w.ownsRow B e 1 (.slice (some ⟨g, 0, none⟩) m cap) m (xs.take m) := by
  obtain ⟨h1, h2⟩ := h
  refine ⟨by simp; omega, ?_⟩
  rcases h2 with ⟨h2, _⟩ | ⟨g', cap', cur, h3, h4, h5, h6, h7, h8, h9⟩
  · cases h2
  · cases h3
    refine .inr ⟨g, cap, cur, rfl, h4, h5, by omega, h7, h8, ?_⟩
    rw [← h9, List.take_take]
    congr 1
    omega
theorem inC_drop (C : List Int) (n : Nat) : inC (C.drop n) = (inC C).drop n := by simp [inC, List.map_drop]
/-- What is left when the i-th is struck: those behind it have moved by one, the last is wiped. -/
theorem struck (C : List Int) (i : Nat) (hi : i < C.length) : (setsL (setsL (inC C) i (inC (C.drop (i + 1)))) (C.length - 1) [.int .i64 0]).take (C.length - 1) = inC (C.eraseIdx i) := by
  have hl : (inC C).length = C.length := by simp [inC]
  have hld : (inC (C.drop (i + 1))).length = C.length - (i + 1) := by simp [inC]
  have hls : (setsL (inC C) i (inC (C.drop (i + 1)))).length = C.length := by
    have : ∀ (vs : List Value) (o : Nat) (xs : List Value), (setsL xs o vs).length = xs.length := fun vs => by
      induction vs with
      | nil => intro o xs; rfl
      | cons v vs ih => intro o xs; show (setsL (xs.set o v) (o + 1) vs).length = _; rw [ih, List.length_set]
    rw [this, hl]
  apply List.ext_getElem?
  intro k
  rw [List.getElem?_take]
  have he : (inC (C.eraseIdx i))[k]? = if k < i then (inC C)[k]? else (inC C)[k + 1]? := by
    unfold inC
    rw [List.getElem?_map, List.getElem?_eraseIdx]
    split <;> simp
  rw [he]
  by_cases hk : k < C.length - 1
  · rw [if_pos hk, setsL_get _ _ _ _ (by rw [hls]; simp; omega), if_neg (by simp; omega), setsL_get _ _ _ _ (by rw [hl, hld]; omega), hld]
    by_cases h1 : k < i
    · rw [if_neg (by omega), if_pos h1]
    · rw [if_pos (by omega), if_neg h1, inC_drop, List.getElem?_drop]
      congr 1
      omega
  · rw [if_neg hk]
    symm
    split
    · exact List.getElem?_eq_none (by omega)
    · exact List.getElem?_eq_none (by omega)

set_option maxRecDepth 100000 in
set_option maxHeartbeats 2000000 in
theorem delete_hid (C : List Int) (i : Nat) (hi : i < C.length) (hl : C.length ≤ 100000) (B g cap : Nat) : Hid (∀ W, W.ownsRow B 3 1 (.slice (some ⟨g, 0, none⟩) C.length cap) C.length (inC C) → Calls Try.prog 89 #[.slice (some ⟨g, 0, none⟩) C.length cap, .int .i64 (i : Int), .int .i64 ((i : Int) + 1)] W fun e w' => e = .returned (.slice (some ⟨g, 0, none⟩) (C.length - 1) cap) ∧ w'.ownsRow B 3 1 (.slice (some ⟨g, 0, none⟩) (C.length - 1) cap) (C.length - 1) (inC (C.eraseIdx i)) ∧ Kp (fun k _ => k = g) W w') := Lib.hid fun w hr => by
  obtain ⟨i0, hi3, hz0, hz1, hz2⟩ := info_parts Tinfo3
  have hcap : C.length ≤ cap ∧ cap ≤ 9223372036854775807 := by
    rcases hr.2 with ⟨h, _⟩ | ⟨g', cap', cur, h3, h4, h5, h6, h7, _⟩
    · cases h
    · cases h3
      exact ⟨h6, by unfold maxLen at h7; omega⟩
  have hrd : w.drew.ownsRow B 3 1 (.slice (some ⟨g, 0, none⟩) C.length cap) C.length (inC C) := hr
  obtain ⟨cur, hcur, hBg⟩ := row_open hrd
  have hcell : ∀ j, j < C.length → (w.drew.cell? ⟨g, j, none⟩).isSome = true := fun j hj => by
    rw [hrd.cellAt j (by omega), List.getElem?_eq_getElem (by simp [inC]; exact hj)]
    rfl
  obtain ⟨news, hnews⟩ : ∃ news, news = inC (C.drop (i + 1)) := ⟨_, rfl⟩
  have hnl : news.length = C.length - (i + 1) := by rw [hnews]; simp [inC]
  obtain ⟨A, hA, hsrc⟩ : ∃ A : Addr, (if cap = i + 1 then some (⟨g, 0, none⟩ : Addr) else some ⟨g, i + 1, none⟩) = some A ∧ ∀ t u, news[t]? = some u → w.drew.cell? (A.add t) = some u := by
    by_cases h : cap = i + 1
    · refine ⟨⟨g, 0, none⟩, by simp [h], fun t u hu => ?_⟩
      have := (List.getElem?_eq_some_iff.1 hu).1
      omega
    · refine ⟨⟨g, i + 1, none⟩, by simp [h], fun t u hu => ?_⟩
      have ht := (List.getElem?_eq_some_iff.1 hu).1
      rw [hnews, inC_drop, List.getElem?_drop] at hu
      rw [Addr.add_lit, hrd.cellAt _ (by omega)]
      exact hu
  obtain ⟨hr1, k1⟩ := sets_row news (0 + i * 1) w.drew _ hrd
  obtain ⟨W1, hW1⟩ : ∃ W1, W1 = w.drew.setCells g (0 + i * 1) news := ⟨_, rfl⟩
  rw [← hW1] at hr1 k1
  obtain ⟨cur1, hcur1, _⟩ := row_open hr1
  have hcl : (Builtin.clear_ #[33] 0 #[.slice (some ⟨g, C.length - 1, none⟩) 1 (cap - (C.length - 1))]).run Try.prog W1 = .ok (.tuple #[]) (W1.setCells g (C.length - 1) (List.replicate 1 (.int .i64 0))) :=
    Lib.run_clear_slice W1 _ _ 0 _ Try.underlying33 (fun w => Try.zeroValue3 w) rfl rfl g (C.length - 1) 1 _ (by omega) (fun t ht => by
      have h1 : (setsL (inC C) (0 + i * 1) news).length = C.length * 1 := hr1.1
      rw [hr1.cellAt _ (by omega), List.getElem?_eq_getElem (by rw [h1]; omega)]
      rfl) (fun t _ => open_of hcur1 _)
  obtain ⟨hr2, k2⟩ := sets_row (List.replicate 1 (.int .i64 0)) (C.length - 1) W1 _ hr1
  have HE : Hid ((W1.setCells g (C.length - 1) (List.replicate 1 (.int .i64 0))).ownsRow B 3 1 (.slice (some ⟨g, 0, none⟩) (C.length - 1) cap) (C.length - 1) (inC (C.eraseIdx i)) ∧ Kp (fun k _ => k = g) w (W1.setCells g (C.length - 1) (List.replicate 1 (.int .i64 0)))) := Lib.hid (by
    have h3 := row_short hr2 (show C.length - 1 ≤ C.length by omega)
    rw [hnews, Nat.mul_one, Nat.zero_add] at h3
    have h4 := struck C i hi
    rw [show List.replicate 1 (Value.int .i64 0) = [Value.int .i64 0] from rfl] at h3 ⊢
    rw [h4] at h3
    exact ⟨h3, ⟨(k1.trans k2).os, (k1.trans k2).tape, (k1.trans k2).output, (k1.trans k2).size, (k1.trans k2).same⟩⟩)
  have s1 : Hid (news.length = (C.length - (i + 1)) * 1) := Lib.hid (by omega)
  have s2 : Hid (∀ u ∈ news, u.oneCell' = true) := Lib.hid (by rw [hnews]; exact inC_one _)
  have s3 : Hid (∀ t, t < news.length → (w.drew.cell? ⟨g, 0 + i * 1 + t, none⟩).isSome = true ∧ w.drew.frozen? ⟨g, 0 + i * 1 + t, none⟩ = false) := Lib.hid fun t ht => ⟨hcell _ (by omega), open_of hcur _⟩
  have s4 := Lib.hid hsrc
  have s5 : Hid (W1 = w.drew.setCells g (0 + i * 1) news) := Lib.hid hW1
  have h1 : i + 1 ≤ cap := by omega
  have h2 : i ≤ cap := by omega
  have z1 : ¬ ((i : Int) = (i : Int) + 1) := by omega
  have z2 : (0 : Int) ≤ (i : Int) + 1 := by omega
  have z3 : (i : Int) + 1 ≤ (C.length : Int) := by omega
  have z4 : (i : Int) ≤ (C.length : Int) := by omega
  have e1 : i + (C.length - (i + 1)) = C.length - 1 := by omega
  clear hr hrd hcur hBg hcell hsrc hr1 k1 hW1 hcur1 hr2 k2 hnews hnl
  obtain ⟨m, hm⟩ : ∃ m, C.length = m + 1 := ⟨C.length - 1, by omega⟩
  rw [hm, Nat.add_sub_cancel] at hcl HE e1
  rw [hm] at s1 z3 z4 hcap
  rw [hm, Nat.add_sub_cancel]
  rw [hm] at hi hl
  rw [Nat.add_sub_add_right] at s1 e1
  have z8 : i ≤ m := by omega
  have z5 : (m : Int) ≤ ((m + 1 : Nat) : Int) := by omega
  have z6 : m ≤ cap := by omega
  have z7 : m + 1 ≤ cap := by omega
  clear hm
  generalize C.eraseIdx i = C' at HE ⊢
  clear hi hl
  go_enter Try.func89, Try.ntmps89
  go_wp2_with fail
  go_region_law (refine step_append_room rfl (.tmp 22) (.tmp 25) 33 rfl 3 i0 1 Try.underlying33 hi3 hz1 g 0 i cap (by simp [Act.eval, Act.put]) A (m - i) (cap - (i + 1)) news (by simp [Act.eval, Act.put]) s1.out s4.out s2.out (by omega) s3.out ?_; rw [← s5.out, e1])
  go_wp2
  go_ret
  exact ⟨rfl, HE.out⟩

end Go.Proofs.Ytcmbkhlnigbooaa.Dm

namespace Go.Proofs.Ytcmbkhlnigbooaa.Dm
open Go.RowKit

theorem grown_of_kp {g : Nat} {w w' : World} (k : Kp (fun j _ => j = g) w w') : w.grownBy w' (some g) := ⟨k.os, k.tape, k.output, k.size, fun j hj hne => by
  rw [Array.getElem?_eq_getElem hj]
  exact k.same j _ (Array.getElem?_eq_getElem hj) fun _ _ _ _ e => hne (by rw [e])⟩
theorem noN_erase : ∀ {C : List Int} {n i : Nat}, C.Nodup → (hi : i < C.length) → C[i] = (n : Int) → noN n C = C.eraseIdx i
  | x :: C, n, 0, hn, _, e => by
    have e : x = (n : Int) := e
    subst e
    rw [List.nodup_cons] at hn
    have h1 : noN n ((n : Int) :: C) = noN n C := by simp [noN]
    rw [h1, noN_none hn.1]
    rfl
  | x :: C, n, i + 1, hn, hi, e => by
    rw [List.nodup_cons] at hn
    have hi : i < C.length := by simpa using hi
    have e : C[i] = (n : Int) := by simpa using e
    have hx : x ≠ (n : Int) := fun h => hn.1 (by rw [h, ← e]; exact List.getElem_mem hi)
    have h1 : noN n (x :: C) = x :: noN n C := by simp [noN, hx]
    rw [h1, noN_erase hn.2 hi e]
    rfl
/-- What taking and laying touch: the nodes' row, rows of numbers. -/
def tkP (B g : Nat) (j : Nat) (t : TypeId) : Prop := j = g ∨ (B ≤ j ∧ t = 3)
/-- How a change of nodes ends: the row's nodes are E. -/
def NdsE (B g cap : Nat) (E : List Nd) (W : World) (e : Ending) (w' : World) : Prop := e = .returned (.tuple #[]) ∧ (∃ A K, OwnD w' B (.slice (some ⟨g, 0, none⟩) E.length cap) E A K) ∧ Kp (tkP B g) W w'

set_option maxRecDepth 100000 in
set_option maxHeartbeats 4000000 in
theorem take_hid (D : List Nd) (R : Right D) (hf : FitD D) (n : Nat) (hn : n < D.length) (B g cap : Nat) : Hid (∀ W A K, OwnD W B (.slice (some ⟨g, 0, none⟩) D.length cap) D A K → Calls Try.prog 67 #[.slice (some ⟨g, 0, none⟩) D.length cap, .int .i64 (n : Int)] W (NdsE B g cap (cutM D n) W)) := Lib.hid fun w A K h => by
  have zn : (n : Int) < (D.length : Int) := by omega
  obtain ⟨B', off', hB, -, -, -, -, c4, -⟩ := h.doc.node hn
  cases hB
  simp only [Nat.zero_add] at c4
  have hpar := par_at hn
  obtain ⟨p, hp⟩ : ∃ p, D[n].p = p := ⟨_, rfl⟩
  rw [hp] at c4 hpar
  by_cases hp1 : p = -1
  · subst hp1
    have HE : Hid (NdsE B g cap (cutM D n) w (.returned (.tuple #[])) w) := Lib.hid ⟨rfl, by
      have e : cutM D n = D := by
        rw [cut_same R hn hpar]
        have e2 : ({ D[n] with p := -1 } : Nd) = D[n] := by
          have h3 := hp
          generalize D[n] = x at h3
          cases x
          simp only at h3
          rw [h3]
        rw [e2]
        exact List.set_getElem_self hn
      rw [e]
      exact ⟨A, K, h⟩, Kp.refl _ _⟩
    clear h hp hpar
    go_enter Try.func67, Try.ntmps67
    go_wp2
    go_end0
    exact HE.out
  obtain ⟨q, rfl, hq⟩ : ∃ q : Nat, p = q ∧ q < D.length := by
    rcases R.neg hn with h1 | ⟨q, h1, h2⟩
    · omega
    · exact ⟨q, by omega, h2⟩
  have hpb : ((q : Int) == -1) = false := beq_eq_false_iff_ne.2 (by omega)
  have hqn := par_ne R hn hpar
  have hcut := cut_other R hn hpar hq hqn
  have hmem := (R.down hn hpar).1
  have hnd := R.kidNodup q
  rw [kid_at hq] at hmem hnd
  obtain ⟨B', off', hB, -, -, -, -, -, d5, -⟩ := h.doc.node hq
  cases hB
  simp only [Nat.zero_add] at d5
  have hkin := h.doc.kd q hq
  have hkr := h.kd q hq
  have hlen := (hf.2 _ (List.getElem_mem hq)).2.2.2.1
  obtain ⟨gk, capk, hk⟩ : ∃ gk capk, K q = .slice (some ⟨gk, 0, none⟩) D[q].c.length capk := by
    rcases rowForms hkr with ⟨_, e⟩ | h
    · rw [List.length_eq_zero_iff.1 e] at hmem
      cases hmem
    · exact h
  rw [hk] at d5 hkin hkr
  have CI := index_hid D[q].c (n : Int) (by omega)
  have zq : (q : Int) < (D.length : Int) := by omega
  have zq0 : (0 : Int) ≤ (q : Int) := by omega
  have CD := fun (i : Nat) (hi : i < D[q].c.length) => delete_hid D[q].c i hi (by omega) B gk capk
  have hno := fun (i : Nat) (hi : i < D[q].c.length) (e : D[q].c[i] = (n : Int)) => noN_erase (n := n) (C := D[q].c) (i := i) hnd hi e
  have HKQ : Hid (K q = .slice (some ⟨gk, 0, none⟩) D[q].c.length capk) := Lib.hid hk
  have H0 := Lib.hid (And.intro h (And.intro hkin hkr))
  have HCUT := Lib.hid hcut
  obtain ⟨C, hC⟩ : ∃ C, D[q].c = C := ⟨_, rfl⟩
  have HC := Lib.hid hC
  rw [hC] at d5 CI CD hno hmem H0 HKQ hlen
  clear h hkin hkr hk hp hpar hcut hnd hC
  have HNO := Lib.hid hno
  clear hno
  go_enter Try.func67, Try.ntmps67
  go_wp2_with fail
  (refine (CI.out _ _ H0.out.2.1).mono ?_)
  rintro e w2 ⟨⟨r, rfl, hr⟩, hw2⟩
  rw [hw2]
  clear hw2 CI
  obtain ⟨i, rfl, hi, hiv⟩ : ∃ i : Nat, r = i ∧ ∃ hi : i < C.length, C[i] = (n : Int) := by
    rcases hr with ⟨_, h⟩ | h
    · exact absurd hmem h
    · exact h
  have CD := CD i hi
  have HER : Hid (noN n C = C.eraseIdx i) := Lib.hid (HNO.out i hi hiv)
  clear hr hmem hiv HNO
  go_wp2_with fail
  refine (CD.out _ H0.out.2.2).mono ?_
  rintro e w3 ⟨rfl, r3, k3⟩
  obtain ⟨cur, hcur, hBg⟩ := H0.out.1.block
  have hne : g ≠ gk := fun e => row_ne H0.out.2.2 hcur (by decide) (by rw [e]; rfl)
  have hBk : B ≤ gk := (H0.out.2.2.lt gk rfl).1
  have x3 := k3.cells hcur (fun e => hne e)
  have hl : (C.eraseIdx i).length = C.length - 1 := by rw [List.length_eraseIdx]; simp [hi]
  obtain ⟨h4, -⟩ := H0.out.1.growK hq (w6 := w3) (kv := .slice (some ⟨gk, 0, none⟩) (C.length - 1) capk) (C := C.eraseIdx i) (by rw [HKQ.out]; exact grown_of_kp k3) (by rw [hl]; exact r3) (.inl (by rw [HKQ.out]; rfl))
  have h5 := h4
  rw [← HER.out] at h5
  have hl4 : (D.set q { D[q] with c := noN n C }).length = D.length := List.length_set
  rw [← hl4] at h5
  obtain ⟨cur4, hcur4, -⟩ := h5.block
  have hn4 : n < (D.set q { D[q] with c := noN n C }).length := by rw [hl4]; exact hn
  have h6 := h5.setP hn4 (-1)
  have hcE : (D.set q { D[q] with c := noN n C }).set n { (D.set q { D[q] with c := noN n C })[n] with p := -1 } = cutM D n := by
    rw [HCUT.out]
    have e : (D.set q { D[q] with c := noN n C })[n] = D[n] := List.getElem_set_ne (by omega) _
    rw [e, HC.out]
  rw [hl4] at h6
  have hl6 : (cutM D n).length = D.length := cut_len D n
  have HE : Hid (NdsE B g cap (cutM D n) w (.returned (.tuple #[])) ((w3.setCell ⟨g, q * 8 + 5, none⟩ (.slice (some ⟨gk, 0, none⟩) (C.length - 1) capk)).setCell ⟨g, n * 8 + 4, none⟩ (.int .i64 (-1)))) := Lib.hid ⟨rfl, ⟨A, _, by
    rw [hl6, ← hcE]
    exact h6⟩, (k3.mono fun k c t fr hk e => .inr (by subst e; exact ⟨hBk, by obtain ⟨c2, h, _⟩ := row_open H0.out.2.2; rw [h] at hk; cases hk; rfl⟩)).trans ((Kp.of_set x3 _ (.inl rfl)).trans (Kp.of_set hcur4 _ (.inl rfl)))⟩
  have y3 := x3
  have f3 := open_of x3 (q * 8 + 5)
  have hd3 : w3.cell? ⟨g, q * 8 + 5, none⟩ = some (.slice (some ⟨gk, 0, none⟩) C.length capk) := by
    rw [cell_of x3, ← cell_of hcur]
    exact d5
  have f4 := open_of hcur4 (n * 8 + 4)
  have hc4 : (w3.setCell ⟨g, q * 8 + 5, none⟩ (.slice (some ⟨gk, 0, none⟩) (C.length - 1) capk)).cell? ⟨g, n * 8 + 4, none⟩ = some (.int .i64 (q : Int)) := by
    rw [World.cell?_setCell_other _ _ _ _ (by intro e; injection e with _ e; omega), cell_of x3, ← cell_of hcur]
    exact c4
  clear h4 h5 h6 x3 y3 hcur hcur4 r3 k3 H0 CD
  go_wp2
  go_end0
  exact HE.out

end Go.Proofs.Ytcmbkhlnigbooaa.Dm

namespace Go.Proofs.Ytcmbkhlnigbooaa.Dm
open Go.RowKit

def ndZ : Nd := ⟨0, [], [], [], 0, [], false, false⟩
/-- A node n whose parent is q, and that is q's last kid. -/
def layM (D : List Nd) (q n : Nat) : List Nd := match (D.set n { D[n]?.getD ndZ with p := (q : Int) })[q]? with
  | some x => (D.set n { D[n]?.getD ndZ with p := (q : Int) }).set q { x with c := x.c ++ [(n : Int)] }
  | none => D
theorem layM_eq {D : List Nd} {q n : Nat} (hn : n < D.length) {E : List Nd} (hE : E = D.set n { D[n] with p := (q : Int) }) (hq : q < E.length) : layM D q n = E.set q { E[q] with c := E[q].c ++ [(n : Int)] } := by
  have e : D[n]?.getD ndZ = D[n] := by rw [List.getElem?_eq_getElem hn]; rfl
  unfold layM
  rw [e, ← hE, List.getElem?_eq_getElem hq]
theorem lay_cut {D : List Nd} {q n : Nat} (hn : n < D.length) (hq : q < D.length) (hqn : q ≠ n) : layM (cutM D n) q n = putM D q n := by
  have hnc : n < (cutM D n).length := by rw [cut_len]; exact hn
  have hl : ((cutM D n).set n { (cutM D n)[n] with p := (q : Int) }).length = D.length := by rw [List.length_set, cut_len]
  rw [layM_eq hnc rfl (by rw [hl]; exact hq)]
  exact (put_of_cut hn hqn (E := (cutM D n).set n { (cutM D n)[n] with p := (q : Int) }) (fun _ => rfl) (by rw [hl]; exact hq)).symm

set_option maxRecDepth 100000 in
set_option maxHeartbeats 4000000 in
theorem lay_hid (D : List Nd) (hc : ∀ x ∈ D, x.c.length ≤ 1000) (q n : Nat) (hq : q < D.length) (hn : n < D.length) (hqn : q ≠ n) (B g cap : Nat) : Hid (∀ W A K, OwnD W B (.slice (some ⟨g, 0, none⟩) D.length cap) D A K → B ≤ W.heap.size → Calls Try.prog 68 #[.slice (some ⟨g, 0, none⟩) D.length cap, .int .i64 (q : Int), .int .i64 (n : Int)] W (NdsE B g cap (layM D q n) W)) := Lib.hid fun w A K h hB => by
  have zn : (n : Int) < (D.length : Int) := by omega
  have zq : (q : Int) < (D.length : Int) := by omega
  obtain ⟨i0, hi3, hz0, hz1, hz2⟩ := info_parts Tinfo3
  obtain ⟨cur, hcur, hBg⟩ := h.block
  obtain ⟨B', off', hB', -, -, -, -, c4, -⟩ := h.doc.node hn
  cases hB'
  simp only [Nat.zero_add] at c4
  have f4 := open_of hcur (n * 8 + 4)
  have h1 := h.setP hn (q : Int)
  obtain ⟨E, hE⟩ : ∃ E, E = D.set n { D[n] with p := (q : Int) } := ⟨_, rfl⟩
  have hEl : E.length = D.length := by rw [hE, List.length_set]
  rw [← hE, ← hEl] at h1
  have hqE : q < E.length := by omega
  have hM := layM_eq hn hE hqE
  obtain ⟨B', off', hB', -, -, -, -, -, d5, -⟩ := h1.doc.node hqE
  cases hB'
  simp only [Nat.zero_add] at d5
  obtain ⟨ka, kc, hk⟩ := (h1.doc.kd q hqE).form
  have hkr := h1.kd q hqE
  rw [hk] at d5 hkr
  have hkl : E[q].c.length ≤ 1000 := by
    have h2 : E[q] = D[q] := by
      simp only [hE]
      exact List.getElem_set_ne (by omega) _
    rw [h2]
    exact hc _ (List.getElem_mem hq)
  have kS : Kp (fun j _ => j = g) w (w.setCell ⟨g, n * 8 + 4, none⟩ (.int .i64 (q : Int))) := Kp.of_set hcur _ rfl
  have H1 := Lib.hid (And.intro h1 (And.intro hkr kS))
  have HK := Lib.hid hk
  have HM := Lib.hid hM
  obtain ⟨C, hC⟩ : ∃ C, E[q].c = C := ⟨_, rfl⟩
  rw [hC] at d5 hkl HM H1 HK
  clear h h1 hkr kS hk hM hE hC
  go_enter Try.func68, Try.ntmps68
  generalize hw1 : w.setCell ⟨g, n * 8 + 4, none⟩ (.int .i64 (q : Int)) = w1 at d5 H1
  have al := (Below.refl w1.heap.size w1).alloc (Nat.le_refl _) (.cells #[.int .i64 (n : Int)] 3)
  have hro := RowIn.made w1 #[.int .i64 (n : Int)] 3 1 1 rfl (fun x hx => by simp at hx; rw [hx]; rfl)
  have H5 := Lib.hid (And.intro hro (row_below H1.out.2.1 al))
  have hs1 : w1.heap.size = w.heap.size := by rw [← hw1]; simp
  have hws : B ≤ (w1.alloc (.cells #[.int .i64 (n : Int)] 3)).heap.size := by simp; omega
  clear hs1
  have d5' : (w1.alloc (.cells #[.int .i64 (n : Int)] 3)).cell? ⟨g, q * 8 + 5, none⟩ = some (.slice ka C.length kc) := (al.cell (lt_of_cell d5)).trans d5
  go_wp2_with (at_builtin
               refine wpList_append_rowG rfl _ _ 33 3 i0 (.int .i64 0) 1 8 Try.underlying33 hi3 hz0 hz1 hz2 rfl (by decide) rfl B _ _ _ rfl H5.out.2 _ 1 _ rfl H5.out.1 (by unfold maxLen; omega) (by omega) hws ?_
               intro v6 w6 hown6 hgrow6 hat6
               have G6 := Lib.hid (H1.out.1.below al |>.growK hqE (w6 := w6) (kv := v6) (C := C ++ [(n : Int)]) (by rw [HK.out]; exact hgrow6) (by rw [List.length_append, inC_app]; exact hown6) (by rw [HK.out]; exact hat6))
               obtain ⟨cg, hcg, -⟩ := (H1.out.1.below al).block
               have x6 := (hgrow6.block _ (lt_of_block hcg) (fun e => row_ne H5.out.2 hcg (by decide) e.symm)).trans hcg
               have f6 := open_of x6 (q * 8 + 5)
               have d6 : w6.cell? ⟨g, q * 8 + 5, none⟩ = some (.slice ka C.length kc) := by rw [cell_of x6, ← cell_of hcg]; exact d5'
               have HE : Hid (NdsE B g cap (layM D q n) w (.returned (.tuple #[])) (w6.setCell ⟨g, q * 8 + 5, none⟩ v6)) := Lib.hid ⟨rfl, ⟨A, _, by rw [show (layM D q n).length = E.length by rw [HM.out, List.length_set], HM.out]; exact G6.out.1⟩, ((H1.out.2.2.mono fun _ _ _ _ _ e => .inl e).trans ((Kp.of_below al).trans (G6.out.2.mono fun _ _ _ _ _ e => .inr ⟨e.2, e.1⟩))).trans (Kp.of_set x6 _ (.inl rfl))⟩
               obtain ⟨va, vc, rfl⟩ := row_form hown6
               clear hown6 hgrow6 hat6 hcg x6)
  go_end0
  exact HE.out

end Go.Proofs.Ytcmbkhlnigbooaa.Dm
