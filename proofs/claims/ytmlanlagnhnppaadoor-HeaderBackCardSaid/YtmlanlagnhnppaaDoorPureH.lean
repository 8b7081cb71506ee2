/- The plain mathematics of header: directives, policies, their texts and what is parsed, over lists of bytes. -/
import Derived.Test.YtmlanlagnhnppaaDoorPure
namespace Go.Proofs.YtmlanlagnhnppaaDoor

theorem byte_any {p : UInt8 → Prop} (h : ∀ n : Fin 256, p (UInt8.ofNat n.val)) (b : UInt8) : p b := by
  have := h ⟨b.toNat, b.toNat_lt⟩
  simpa using this

structure D where
  n : List UInt8
  w : List (List UInt8)
  deriving DecidableEq

/-! Names, words. -/
def nB (b : UInt8) : Bool := decide (97 ≤ b.toNat ∧ b.toNat ≤ 122) || decide (48 ≤ b.toNat ∧ b.toNat ≤ 57) || b == 45
def wB (b : UInt8) : Bool := decide (33 ≤ b.toNat ∧ b.toNat ≤ 126) && !(b == 44) && !(b == 59)
def nameH (l : List UInt8) : Bool := !l.isEmpty && decide (l.length ≤ 40) && l.all nB
def wordH (l : List UInt8) : Bool := !l.isEmpty && l.all wB
theorem nB_facts (b : UInt8) : nB b = true → lowB b = b ∧ blk b = false ∧ (b == 44) = false ∧ (b == 59) = false := by revert b; exact byte_any (by decide +kernel)
theorem wB_facts (b : UInt8) : wB b = true → blk b = false ∧ (b == 44) = false ∧ (b == 59) = false := by revert b; exact byte_any (by decide +kernel)
theorem nameH_all {l : List UInt8} (h : nameH l = true) : l ≠ [] ∧ l.length ≤ 40 ∧ ∀ b ∈ l, nB b = true := by
  unfold nameH at h
  simp only [Bool.and_eq_true, Bool.not_eq_true', decide_eq_true_eq, List.all_eq_true] at h
  exact ⟨by intro e; rw [e] at h; simp at h, h.1.2, h.2⟩
theorem wordH_all {l : List UInt8} (h : wordH l = true) : l ≠ [] ∧ ∀ b ∈ l, wB b = true := by
  unfold wordH at h
  simp only [Bool.and_eq_true, Bool.not_eq_true', List.all_eq_true] at h
  exact ⟨by intro e; rw [e] at h; simp at h, h.2⟩
theorem name_low {l : List UInt8} (h : nameH l = true) : low l = l := by
  have k := (nameH_all h).2.2
  clear h
  induction l with
  | nil => rfl
  | cons b l ih =>
    have e1 := (nB_facts b (k b (by simp))).1
    have e2 := ih (fun x hx => k x (by simp [hx]))
    show lowB b :: low l = _
    rw [e1, e2]

/-! A directive, a policy, policies of a text. -/
def dirM (s : List UInt8) : Option D :=
  match words s with
  | [] => none
  | n :: ws => if nameH (low n) then some ⟨low n, (ws.take 200).filter wordH⟩ else none
def thereM (ds : List D) (n : List UInt8) : Bool := ds.any (fun d => d.n == n)
def addD (ds : List D) (s : List UInt8) : List D :=
  match dirM s with
  | none => ds
  | some d => if thereM ds d.n then ds else ds ++ [d]
def polM (s : List UInt8) : List D := (parts s 59).foldl addD []
def allH (s : List UInt8) : List (List D) := ((parts s 44).map polM).filter (fun p => !p.isEmpty)
def parseH (s : List UInt8) : List (List D) := (allH s).take 10
def findM (ds : List D) (name : List UInt8) : Option (List (List UInt8)) := (ds.find? (fun d => d.n == low name)).map D.w

/-! Which policies are right, and their texts. -/
def dirR (d : D) : Bool := nameH d.n && decide (d.w.length ≤ 200) && d.w.all wordH
def onceM (ds : List D) : Prop := ds.Pairwise (fun a b => a.n ≠ b.n)
def rightH (ds : List D) : Prop := ds ≠ [] ∧ (∀ d ∈ ds, dirR d = true) ∧ onceM ds
def tailT (ws : List (List UInt8)) : List UInt8 := ws.flatMap (fun w => 32 :: w)
def dT (d : D) : List UInt8 := d.n ++ tailT d.w
def pT : List D → List UInt8
  | [] => []
  | [d] => dT d
  | d :: e :: r => dT d ++ 59 :: 32 :: pT (e :: r)
theorem pT_cons (d e : D) (r : List D) : pT (d :: e :: r) = dT d ++ 59 :: 32 :: pT (e :: r) := rfl
theorem dirR_all {d : D} (h : dirR d = true) : nameH d.n = true ∧ d.w.length ≤ 200 ∧ ∀ w ∈ d.w, wordH w = true := by
  unfold dirR at h
  simp only [Bool.and_eq_true, decide_eq_true_eq, List.all_eq_true] at h
  exact ⟨h.1.1, h.1.2, h.2⟩

/-! What is parsed is right. -/
theorem dirM_right {s : List UInt8} {d : D} (h : dirM s = some d) : dirR d = true := by
  unfold dirM at h
  split at h
  · cases h
  · rename_i n ws hw
    split at h
    · rename_i hn
      obtain rfl := Option.some.inj h
      unfold dirR
      simp only [Bool.and_eq_true, decide_eq_true_eq, List.all_eq_true]
      refine ⟨⟨hn, ?_⟩, fun w hw => (List.mem_filter.1 hw).2⟩
      have h1 := List.length_filter_le wordH (ws.take 200)
      have h2 : (ws.take 200).length ≤ 200 := by rw [List.length_take]; omega
      show ((ws.take 200).filter wordH).length ≤ 200
      omega
    · cases h
theorem thereM_no {ds : List D} {n : List UInt8} (h : thereM ds n = false) : ∀ d ∈ ds, d.n ≠ n := by
  intro d hd e
  unfold thereM at h
  rw [List.any_eq_false] at h
  exact h d hd (by simp [e])
theorem addD_right {ds : List D} (s : List UInt8) (h : (∀ d ∈ ds, dirR d = true) ∧ onceM ds) : (∀ d ∈ addD ds s, dirR d = true) ∧ onceM (addD ds s) := by
  unfold addD
  split
  · exact h
  · rename_i d hd
    split
    · exact h
    · rename_i ht
      have ht' : thereM ds d.n = false := by simpa using ht
      refine ⟨fun x hx => ?_, ?_⟩
      · rcases List.mem_append.1 hx with hx | hx
        · exact h.1 x hx
        · rw [List.mem_singleton.1 hx]; exact dirM_right hd
      · unfold onceM
        rw [List.pairwise_append]
        exact ⟨h.2, List.pairwise_singleton _ _, fun a ha b hb => by rw [List.mem_singleton.1 hb]; exact thereM_no ht' a ha⟩
theorem foldD_right (L : List (List UInt8)) : ∀ ds : List D, ((∀ d ∈ ds, dirR d = true) ∧ onceM ds) → (∀ d ∈ L.foldl addD ds, dirR d = true) ∧ onceM (L.foldl addD ds) := by
  induction L with
  | nil => intro ds h; exact h
  | cons s L ih => intro ds h; exact ih _ (addD_right s h)
theorem polM_right (s : List UInt8) : (∀ d ∈ polM s, dirR d = true) ∧ onceM (polM s) := foldD_right _ _ ⟨by simp, List.Pairwise.nil⟩
theorem allH_right {s : List UInt8} {ds : List D} (h : ds ∈ allH s) : rightH ds := by
  unfold allH at h
  obtain ⟨h1, h2⟩ := List.mem_filter.1 h
  obtain ⟨t, _, rfl⟩ := List.mem_map.1 h1
  have := polM_right t
  exact ⟨by intro e; rw [e] at h2; simp at h2, this.1, this.2⟩
theorem parseH_right {s : List UInt8} {ds : List D} (h : ds ∈ parseH s) : rightH ds := allH_right (List.mem_of_mem_take h)
theorem parseH_length (s : List UInt8) : (parseH s).length ≤ 10 := by unfold parseH; rw [List.length_take]; omega

/-! A right policy's text is parsed as it. -/
theorem words_tail : ∀ (ws : List (List UInt8)) (a : List UInt8), a ≠ [] → (∀ b ∈ a, blk b = false) → (∀ w ∈ ws, w ≠ [] ∧ ∀ b ∈ w, blk b = false) → words (a ++ tailT ws) = a :: ws
  | [], a, h0, ha, _ => by
    show words (a ++ []) = _
    rw [List.append_nil]
    exact words_last a ha h0
  | w :: ws, a, h0, ha, h => by
    have hw := h w (by simp)
    show words (a ++ (32 :: w ++ tailT ws)) = _
    rw [List.cons_append, words_hit a 32 _ ha (by decide) h0, words_tail ws w hw.1 hw.2 (fun x hx => h x (by simp [hx]))]
theorem dir_blank {d : D} (h : dirR d = true) : (d.n ≠ [] ∧ ∀ b ∈ d.n, blk b = false) ∧ ∀ w ∈ d.w, w ≠ [] ∧ ∀ b ∈ w, blk b = false := by
  obtain ⟨h1, _, h3⟩ := dirR_all h
  exact ⟨⟨(nameH_all h1).1, fun b hb => (nB_facts b ((nameH_all h1).2.2 b hb)).2.1⟩, fun w hw => ⟨(wordH_all (h3 w hw)).1, fun b hb => (wB_facts b ((wordH_all (h3 w hw)).2 b hb)).1⟩⟩
theorem dirM_dT {d : D} (h : dirR d = true) : dirM (dT d) = some d := by
  obtain ⟨h1, h2, h3⟩ := dirR_all h
  obtain ⟨⟨k0, k1⟩, k2⟩ := dir_blank h
  have e : words (dT d) = d.n :: d.w := words_tail d.w d.n k0 k1 k2
  unfold dirM
  rw [e]
  show (if nameH (low d.n) then _ else _) = _
  rw [name_low h1, if_pos h1, List.take_of_length_le h2, List.filter_eq_self.2 h3]
theorem dT_mem {d : D} (h : dirR d = true) : ∀ b ∈ dT d, (b == 44) = false ∧ (b == 59) = false := by
  obtain ⟨h1, _, h3⟩ := dirR_all h
  intro b hb
  rcases List.mem_append.1 hb with hb | hb
  · exact (nB_facts b ((nameH_all h1).2.2 b hb)).2.2
  · obtain ⟨w, hw, hb⟩ := List.mem_flatMap.1 hb
    rcases List.mem_cons.1 hb with rfl | hb
    · decide
    · exact (wB_facts b ((wordH_all (h3 w hw)).2 b hb)).2
theorem last_of {t x : List UInt8} {b c : UInt8} (h : x ++ [c] = t ++ [b]) : b = c := by
  have := congrArg List.getLast? h
  simpa using this.symm
theorem ends_last (x y : List UInt8) (h0 : y ≠ []) (hy : ∀ b ∈ y, blk b = false) : ∀ b t, x ++ y = t ++ [b] → blk b = false := by
  intro b t h
  rw [← List.dropLast_concat_getLast h0, ← List.append_assoc] at h
  rw [last_of h]
  exact hy _ (List.getLast_mem h0)
theorem dT_last {d : D} (h : dirR d = true) (x : List UInt8) : ∀ b t, x ++ dT d = t ++ [b] → blk b = false := by
  obtain ⟨⟨k0, k1⟩, k2⟩ := dir_blank h
  rcases List.eq_nil_or_concat d.w with e | ⟨L, w, e⟩
  · unfold dT
    rw [e]
    show ∀ b t, x ++ (d.n ++ []) = t ++ [b] → _
    rw [List.append_nil]
    exact ends_last x d.n k0 k1
  · have hw := k2 w (by rw [e]; simp)
    have e2 : x ++ dT d = (x ++ d.n ++ tailT L ++ [32]) ++ w := by
      unfold dT tailT
      rw [e]
      simp
    rw [e2]
    exact ends_last _ w hw.1 hw.2
theorem dT_ends {d : D} (h : dirR d = true) : Ends (dT d) := by
  obtain ⟨⟨k0, k1⟩, _⟩ := dir_blank h
  refine ⟨fun b t e => ?_, by have := dT_last h []; simpa using this⟩
  obtain ⟨c, r, hc⟩ := List.exists_cons_of_ne_nil k0
  unfold dT at e
  rw [hc] at e
  obtain ⟨rfl, _⟩ := List.cons.inj e
  exact k1 c (by rw [hc]; simp)
theorem dT_ne {d : D} (h : dirR d = true) : ∃ c r, dT d = c :: r ∧ blk c = false := by
  obtain ⟨⟨k0, k1⟩, _⟩ := dir_blank h
  obtain ⟨c, r, hc⟩ := List.exists_cons_of_ne_nil k0
  exact ⟨c, r ++ tailT d.w, by unfold dT; rw [hc]; rfl, k1 c (by rw [hc]; simp)⟩
theorem trim_32 {l : List UInt8} (h : Ends l) : trim (32 :: l) = l := by
  have := trim_unique (a := [32]) (m := l) (z := []) (by decide) (by simp) h
  simpa using this
theorem parts_pT : ∀ (ds : List D), ds ≠ [] → (∀ d ∈ ds, dirR d = true) → (cut (· == 59) (pT ds)).map trim = ds.map dT ∧ (cut (· == 59) (32 :: pT ds)).map trim = ds.map dT
  | [], h0, _ => absurd rfl h0
  | [d], _, h => by
    have hd := h d (by simp)
    have he := dT_ends hd
    have h1 : ∀ b ∈ dT d, (b == 59) = false := fun b hb => (dT_mem hd b hb).2
    constructor
    · show (cut _ (dT d)).map trim = [dT d]
      rw [cut_none _ _ h1]
      simp [trim_of_ends he]
    · show (cut _ (32 :: dT d)).map trim = [dT d]
      rw [cut_none _ _ (fun b hb => by rcases List.mem_cons.1 hb with rfl | hb; decide; exact h1 b hb)]
      simp [trim_32 he]
  | d :: e :: r, _, h => by
    have hd := h d (by simp)
    have he := dT_ends hd
    have h1 : ∀ b ∈ dT d, (b == 59) = false := fun b hb => (dT_mem hd b hb).2
    have ih := (parts_pT (e :: r) (by simp) (fun x hx => h x (by simp [List.mem_cons.1 hx]))).2
    rw [pT_cons]
    constructor
    · rw [cut_hit (· == 59) (dT d) 59 _ h1 (by decide), List.map_cons, ih, trim_of_ends he]; rfl
    · rw [← List.cons_append, cut_hit (· == 59) (32 :: dT d) 59 _ (fun b hb => by rcases List.mem_cons.1 hb with rfl | hb; decide; exact h1 b hb) (by decide), List.map_cons, ih, trim_32 he]; rfl
theorem fold_dT : ∀ (ds acc : List D), (∀ d ∈ ds, dirR d = true) → onceM (acc ++ ds) → (ds.map dT).foldl addD acc = acc ++ ds
  | [], acc, _, _ => by simp
  | d :: ds, acc, h, ho => by
    have hd := h d (by simp)
    have hn : thereM acc d.n = false := by
      unfold thereM
      rw [List.any_eq_false]
      intro x hx e
      unfold onceM at ho
      rw [List.pairwise_append] at ho
      exact ho.2.2 x hx d (by simp) (by simpa using e)
    have e : addD acc (dT d) = acc ++ [d] := by
      unfold addD
      rw [dirM_dT hd]
      show (if thereM acc d.n then acc else acc ++ [d]) = _
      rw [hn]; rfl
    rw [List.map_cons, List.foldl_cons, e, fold_dT ds (acc ++ [d]) (fun x hx => h x (by simp [hx])) (by rw [List.append_assoc]; exact ho), List.append_assoc]
    rfl
theorem polM_pT {ds : List D} (h : rightH ds) : polM (pT ds) = ds := by
  unfold polM parts
  rw [(parts_pT ds h.1 h.2.1).1]
  exact fold_dT ds [] h.2.1 h.2.2
theorem pT_mem : ∀ {ds : List D}, (∀ d ∈ ds, dirR d = true) → ∀ b ∈ pT ds, (b == 44) = false
  | [], _, b, hb => by cases hb
  | [d], h, b, hb => (dT_mem (h d (by simp)) b hb).1
  | d :: e :: r, h, b, hb => by
    rw [pT_cons] at hb
    rcases List.mem_append.1 hb with hb | hb
    · exact (dT_mem (h d (by simp)) b hb).1
    · rcases List.mem_cons.1 hb with rfl | hb
      · decide
      · rcases List.mem_cons.1 hb with rfl | hb
        · decide
        · exact pT_mem (ds := e :: r) (fun x hx => h x (by simp [List.mem_cons.1 hx])) b hb
theorem pT_last : ∀ {ds : List D}, ds ≠ [] → (∀ d ∈ ds, dirR d = true) → ∀ (x : List UInt8) b t, x ++ pT ds = t ++ [b] → blk b = false
  | [], h0, _ => absurd rfl h0
  | [d], _, h => fun x => dT_last (h d (by simp)) x
  | d :: e :: r, _, h => fun x b t hx => by
    rw [pT_cons] at hx
    have e2 : x ++ (dT d ++ 59 :: 32 :: pT (e :: r)) = (x ++ dT d ++ [59, 32]) ++ pT (e :: r) := by simp
    rw [e2] at hx
    exact pT_last (ds := e :: r) (by simp) (fun y hy => h y (by simp [List.mem_cons.1 hy])) _ b t hx
theorem pT_head {d : D} {ds : List D} : ∃ r, pT (d :: ds) = dT d ++ r := by
  cases ds with
  | nil => exact ⟨[], (List.append_nil _).symm⟩
  | cons e r => exact ⟨_, pT_cons d e r⟩
theorem pT_ends {ds : List D} (h0 : ds ≠ []) (h : ∀ d ∈ ds, dirR d = true) : Ends (pT ds) := by
  refine ⟨fun b t e => ?_, by have := pT_last h0 h []; simpa using this⟩
  cases ds with
  | nil => exact absurd rfl h0
  | cons d r =>
    obtain ⟨z, hz⟩ := pT_head (d := d) (ds := r)
    obtain ⟨c, y, hc, hb⟩ := dT_ne (h d (by simp))
    rw [hz, hc] at e
    obtain ⟨rfl, _⟩ := List.cons.inj e
    exact hb
theorem allH_pT {ds : List D} (h : rightH ds) : allH (pT ds) = [ds] := by
  unfold allH parts
  rw [cut_none _ _ (pT_mem h.2.1)]
  have e : trim (pT ds) = pT ds := trim_of_ends (pT_ends h.1 h.2.1)
  simp only [List.map_cons, List.map_nil, e, polM_pT h]
  have : ds.isEmpty = false := by cases ds with
    | nil => exact absurd rfl h.1
    | cons => rfl
  simp [this]
theorem parseH_pT {ds : List D} (h : rightH ds) : parseH (pT ds) = [ds] := by unfold parseH; rw [allH_pT h]; rfl

/-! Texts with a comma between them. -/
theorem cut_apart (p : UInt8 → Bool) (a : List UInt8) (c : UInt8) (b : List UInt8) (hc : p c = true) : cut p (a ++ c :: b) = cut p a ++ cut p b := by
  induction a with
  | nil => exact cut_hit p [] c b (by simp) hc
  | cons x a ih =>
    cases hx : p x
    · have hne := cut_ne p a
      obtain ⟨y, ys, hy⟩ := List.exists_cons_of_ne_nil hne
      rw [hy] at ih
      rw [List.cons_append]
      have e1 : cut p (x :: (a ++ c :: b)) = match cut p (a ++ c :: b) with | [] => [[x]] | h :: t => (x :: h) :: t := by
        conv => lhs; unfold cut
        rw [hx]; rfl
      have e2 : cut p (x :: a) = match cut p a with | [] => [[x]] | h :: t => (x :: h) :: t := by
        conv => lhs; unfold cut
        rw [hx]; rfl
      rw [e1, ih, e2, hy]
      rfl
    · have e1 := cut_hit p [] x (a ++ c :: b) (by simp) hx
      have e2 := cut_hit p [] x a (by simp) hx
      rw [List.nil_append] at e1 e2
      rw [List.cons_append, e1, e2, ih]
      rfl
theorem allH_join (a b : List UInt8) : allH (a ++ 44 :: b) = allH a ++ allH b := by
  unfold allH parts
  rw [cut_apart _ a 44 b (by decide)]
  simp
theorem parseH_join (a b : List UInt8) : parseH (a ++ 44 :: b) = (parseH a ++ parseH b).take 10 := by
  unfold parseH
  rw [allH_join, List.take_append, List.take_append, List.take_take, List.take_take]
  simp only [Nat.min_self, List.length_take]
  congr 2
  omega
theorem join_lengths (a b : List UInt8) : (parseH (a ++ 44 :: b)).length = min 10 ((parseH a).length + (parseH b).length) ∧ (parseH (a ++ 44 :: b)).take (parseH a).length = parseH a ∧ (parseH (a ++ 44 :: b)).drop (parseH a).length = (parseH b).take ((parseH (a ++ 44 :: b)).length - (parseH a).length) := by
  have h1 := parseH_length a
  rw [parseH_join]
  refine ⟨by rw [List.length_take, List.length_append], ?_, ?_⟩
  · rw [List.take_take, Nat.min_eq_left h1, List.take_append_of_le_length (Nat.le_refl _), List.take_length]
  · rw [List.take_append, List.take_of_length_le h1, List.drop_append, List.drop_length, Nat.sub_self, List.drop_zero, List.nil_append, List.length_append, Nat.add_sub_cancel_left, List.length_take]
    rw [Nat.min_comm, List.take_eq_take_iff]
    omega
theorem allH_nil : allH [] = [] := by decide +kernel
/-- The texts of policies, each with a comma behind it. -/
def commas (L : List (List D)) : List UInt8 := L.flatMap (fun ds => pT ds ++ [44])
theorem allH_commas : ∀ (L : List (List D)), (∀ ds ∈ L, rightH ds) → allH (commas L) = L
  | [], _ => allH_nil
  | ds :: L, h => by
    have e : commas (ds :: L) = pT ds ++ 44 :: commas L := by unfold commas; simp
    rw [e, allH_join, allH_pT (h ds (by simp)), allH_commas L (fun x hx => h x (by simp [hx]))]
    rfl
theorem parseH_commas (s : List UInt8) : parseH (commas (parseH s)) = parseH s := by
  have e := allH_commas (parseH s) (fun ds h => parseH_right h)
  show (allH (commas (parseH s))).take 10 = _
  rw [e, List.take_of_length_le (parseH_length s)]

/-! What is found, and what a text has. -/
theorem find_once : ∀ {ds : List D} {k : Nat} {d : D}, onceM ds → ds[k]? = some d → ds.find? (fun x => x.n == d.n) = some d
  | [], k, d, _, h => by simp at h
  | e :: ds, 0, d, _, h => by
    have : e = d := by simpa using h
    subst this
    simp
  | e :: ds, k + 1, d, ho, h => by
    have h' : ds[k]? = some d := by simpa using h
    have ho' := List.pairwise_cons.1 ho
    have hne : (e.n == d.n) = false := by
      have := ho'.1 d (List.mem_of_getElem? h')
      simpa using this
    rw [List.find?_cons, hne]
    exact find_once ho'.2 h'
theorem find_own {ds : List D} (h : rightH ds) {k : Nat} {d : D} (hk : ds[k]? = some d) : findM ds d.n = some d.w ∧ low d.n = d.n := by
  have hd := name_low (dirR_all (h.2.1 d (List.mem_of_getElem? hk))).1
  unfold findM
  rw [hd, find_once h.2.2 hk]
  exact ⟨rfl, rfl⟩
theorem count_none {l : List UInt8} {c : UInt8} (h : ∀ b ∈ l, (b == c) = false) : l.count c = 0 := by
  rw [List.count_eq_zero]
  intro hc
  have := h c hc
  simp at this
theorem pT_count : ∀ {ds : List D}, ds ≠ [] → (∀ d ∈ ds, dirR d = true) → (pT ds).count 59 + 1 = ds.length
  | [], h0, _ => absurd rfl h0
  | [d], _, h => by
    show (dT d).count 59 + 1 = 1
    rw [count_none (fun b hb => (dT_mem (h d (by simp)) b hb).2)]
  | d :: e :: r, _, h => by
    have ih := pT_count (ds := e :: r) (by simp) (fun x hx => h x (by simp [List.mem_cons.1 hx]))
    rw [pT_cons, List.count_append, count_none (fun b hb => (dT_mem (h d (by simp)) b hb).2), List.count_cons_self, List.count_cons_of_ne (by decide)]
    simp only [List.length_cons] at ih ⊢
    omega
theorem pT_name {d : D} {ds : List D} : ∃ r, pT (d :: ds) = d.n ++ r := by
  obtain ⟨r, h⟩ := pT_head (d := d) (ds := ds)
  exact ⟨tailT d.w ++ r, by rw [h]; unfold dT; rw [List.append_assoc]⟩

end Go.Proofs.YtmlanlagnhnppaaDoor
