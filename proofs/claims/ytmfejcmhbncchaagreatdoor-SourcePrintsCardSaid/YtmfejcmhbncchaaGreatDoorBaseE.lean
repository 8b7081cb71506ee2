/- Rows that are written: signs of numbers, numbers of signs: the program's. -/
import Derived.Test.YtmfejcmhbncchaaGreatDoorBaseD
namespace Go.Proofs.YtmfejcmhbncchaaGreatDoor
open Go.RowKit

/-- A row that may be written. -/
structure VRow (w : World) (g : Nat) (l : List Value) : Prop where
  cell : ∀ j v, l[j]? = some v → w.cell? ⟨g, j, none⟩ = some v
  free : ∀ j, j < l.length → w.frozen? ⟨g, j, none⟩ = false
theorem VRow.set {w : World} {g : Nat} {l : List Value} (h : VRow w g l) {k : Nat} (hk : k < l.length) (v : Value) : VRow (w.setCell ⟨g, k, none⟩ v) g (l.set k v) := by
  refine ⟨fun j c hj => ?_, fun j hj => by rw [World.frozen?_setCell]; exact h.free j (by simpa using hj)⟩
  rw [List.getElem?_set] at hj
  by_cases e : k = j
  · subst e
    rw [if_pos rfl, if_pos hk] at hj
    cases hj
    exact World.cell?_setCell_same _ _ _ (h.cell k l[k] (by rw [List.getElem?_eq_getElem hk]))
  · rw [if_neg e] at hj
    rw [World.cell?_setCell_other _ _ _ _ (by intro h; cases h; exact e rfl)]
    exact h.cell j c hj
theorem VRow.made (w : World) (z : Value) (n : Nat) (t : TypeId) : VRow (w.alloc (.cells (madeCells #[z] n) t)) w.heap.size (List.replicate n z) := by
  refine ⟨fun j v hj => ?_, fun j hj => ?_⟩
  · rw [World.cell?_alloc_mark, ← Array.getElem?_toList, toList_madeCells_one, hj]
  · rw [List.length_replicate] at hj
    unfold World.frozen?
    simp only [World.alloc, Array.getElem?_push_size]
    simp
def mixK {α : Type} (f g : α → Value) (l : List α) (k : Nat) : List Value := (l.take k).map f ++ (l.drop k).map g
theorem mixK_length {α : Type} (f g : α → Value) (l : List α) (k : Nat) : (mixK f g l k).length = l.length := by
  simp only [mixK, List.length_append, List.length_map, List.length_take, List.length_drop]; omega
theorem mixK_zero {α : Type} (f g : α → Value) (l : List α) : mixK f g l 0 = l.map g := by simp [mixK]
theorem mixK_all {α : Type} (f g : α → Value) (l : List α) : mixK f g l l.length = l.map f := by simp [mixK]
theorem mixK_at {α : Type} (f g : α → Value) (l : List α) (k : Nat) (b : α) (h : l[k]? = some b) : (mixK f g l k)[k]? = some (g b) := by
  have hk := (List.getElem?_eq_some_iff.1 h).1
  unfold mixK
  rw [List.getElem?_append_right (by simp; omega)]
  simp only [List.length_map, List.length_take, List.getElem?_map, List.getElem?_drop]
  have : k + (k - min k l.length) = k := by omega
  rw [this, h]; rfl
theorem mixK_succ {α : Type} (f g : α → Value) (l : List α) (k : Nat) (b : α) (h : l[k]? = some b) : mixK f g l (k + 1) = (mixK f g l k).set k (f b) := by
  have hk := List.getElem?_eq_some_iff.1 h
  have hlen : ((l.take k).map f).length = k := by have := hk.1; simp; omega
  unfold mixK
  have hd : l.drop k = b :: l.drop (k + 1) := by rw [List.drop_eq_getElem_cons hk.1, hk.2]
  rw [List.set_append_right _ _ (by omega), hlen, Nat.sub_self, hd, List.map_cons, List.set_cons_zero, List.take_add_one, h]
  simp
theorem conv_cells (w : World) (g cap : Nat) (L : List UInt8) (h : ∀ j b, L[j]? = some b → w.cell? ⟨g, j, none⟩ = some (.int .u8 (b.toNat : Int))) (n : Nat) (hn : n = L.length) : (convert 46 9 (.slice (some ⟨g, 0, none⟩) n cap)).run Tryz.prog w = .ok (.string ⟨L.toArray⟩) w := by
  subst hn
  refine run_convert_bytes_back (P := Tryz.prog) w 46 9 5 ⟨g, 0, none⟩ cap L Tryz.underlying46 Tryz.underlying5 Tryz.underlying9 (fun j hj => ?_)
  have e : (⟨g, 0, none⟩ : Addr).add j = ⟨g, j, none⟩ := by simp [Addr.add]; omega
  rw [e]
  exact h j _ (by rw [List.getElem?_eq_getElem hj])

def sgV (x : Nat) : Value := .int .u8 ((sgn x).toNat : Int)
def zeroV (_ : Nat) : Value := .int .u8 0

set_option maxRecDepth 100000 in
set_option maxHeartbeats 1000000 in
theorem written_any (l : List Nat) (hl64 : ∀ x ∈ l, x < 64) (v : Value) (w : World) (T : ByteArray) (hT : T.data.toList = l.map sgn) (hin : NatsIn w v l) (hl : l.length ≤ 1000000000) :
    Calls Tryz.prog 29 #[v] w fun e w' => e = .returned (.string T) ∧ Below w.heap.size w w' := by
  obtain ⟨a, c, rfl⟩ := hin.form
  have hcell : Hid (∀ j, (h : j < l.length) → ∃ B off, a = some ⟨B, off, none⟩ ∧ B < w.heap.size ∧ w.cell? ⟨B, off + j, none⟩ = some (.int .u8 (l[j] : Int))) := Lib.hid fun j h => by
    rcases hin with ⟨_, h2⟩ | ⟨B, off, cap, h1, h2⟩
    · subst h2; simp at h
    · cases h1
      exact ⟨B, off, rfl, lt_of_cell (h2 j h), h2 j h⟩
  obtain ⟨i0, hi, hz0, hz1, hz2⟩ := info_parts Tinfo5
  have hmk := run_make (P := Tryz.prog) w 46 5 i0 _ Tryz.underlying46 hi hz0 .i64 .i64 (l.length : Int) (l.length : Int) (by omega) (Int.le_refl _) (by rw [hz2]; omega) (by omega)
  have ez : (Value.int IntKind.u8 0).cells = #[.int .u8 0] := rfl
  rw [hz1, Int.toNat_natCast, Nat.mul_one, ez] at hmk
  have hrow := VRow.made w (.int .u8 0) l.length 5
  have hb1 : Below w.heap.size w (w.alloc (.cells (madeCells #[.int .u8 0] l.length) 5)) := (Below.refl _ _).alloc (Nat.le_refl _) _
  have em : List.replicate l.length (Value.int .u8 0) = mixK sgV zeroV l 0 := by
    rw [mixK_zero]
    apply List.ext_getElem
    · simp
    · intro j h1 h2; simp [zeroV]
  rw [em] at hrow
  generalize hW1 : w.alloc (.cells (madeCells #[.int .u8 0] l.length) 5) = W1 at hmk hrow hb1
  have HT := Lib.hid hT
  clear hin hT hW1 ez em
  go_enter Tryz.func29, Tryz.ntmps29
  go_wp2
  go_loopw [4, 5, 11] (fun _ _ i wr => ∃ k : Nat, i = .int .i64 k ∧ k ≤ l.length ∧ VRow wr w.heap.size (mixK sgV zeroV l k) ∧ Below w.heap.size w wr) (fun _ _ i _ => l.length - (intOf i).toNat)
  case atStart => exact ⟨0, rfl, Nat.zero_le _, hrow, hb1⟩
  case round =>
    obtain ⟨k, rfl, hk, hr, hb⟩ := hrel
    clear hrow hb1 hmk
    by_cases hlt : k < l.length
    · obtain ⟨B, off, rfl, hB, hc⟩ := hcell.out k hlt
      have hc1 : wr.cell? ⟨B, off + k, none⟩ = some (.int .u8 (l[k] : Int)) := by rw [hb.cell hB, hc]
      have hb8 := hl64 _ (List.getElem_mem hlt)
      have ix := sign_ix .u8 l[k] hb8
      have hat : l[k]? = some l[k] := List.getElem?_eq_getElem hlt
      have hcell1 := hr.cell k _ (mixK_at sgV zeroV l k _ hat)
      have hfree := hr.free k (by rw [mixK_length]; exact hlt)
      have hset := hr.set (k := k) (by rw [mixK_length]; exact hlt) (sgV l[k])
      rw [← mixK_succ sgV zeroV l k _ hat] at hset
      have hbs := hb.setCell (p := ⟨w.heap.size, k, none⟩) (Nat.le_refl _) (sgV l[k])
      unfold zeroV at hcell1
      have HS := Lib.hid hset
      have HB := Lib.hid hbs
      have es : sgV l[k] = .int .u8 ((sgn l[k]).toNat : Int) := rfl
      rw [es] at HS HB
      clear hset hbs es hat hc
      generalize (sgn l[k]).toNat = y at *
      generalize l[k] = x at *
      go_wp2
      go_roundw
      case rel => exact ⟨k + 1, by go_num, by omega, HS.out, HB.out⟩
      case measure => simp [intOf]; omega
    · obtain rfl : k = l.length := by omega
      rw [mixK_all] at hr
      have hc := conv_cells wr w.heap.size l.length T.data.toList (fun j b hj => hr.cell j _ (by
        rw [HT.out, List.getElem?_map] at hj
        rw [List.getElem?_map]
        cases hx : l[j]? with
        | none => rw [hx] at hj; cases hj
        | some x => rw [hx] at hj; cases hj; rfl)) l.length (by rw [HT.out, List.length_map])
      have et : (⟨T.data.toList.toArray⟩ : ByteArray) = T := (text_is rfl).symm
      rw [et] at hc
      clear et
      go_wp2
      go_ret
      exact ⟨rfl, hb⟩

theorem VRow.world (w : World) (s : ByteArray) : VRow (Lib.bytesWorld w 5 s) w.heap.size (s.data.toList.map fun b => .int .u8 (b.toNat : Int)) := by
  refine ⟨fun j v hj => ?_, fun j hj => ?_⟩
  · rw [List.getElem?_map] at hj
    cases hx : s.data.toList[j]? with
    | none => rw [hx] at hj; cases hj
    | some b =>
      rw [hx] at hj
      cases hj
      have hlt : j < s.size := by have := (List.getElem?_eq_some_iff.1 hx).1; rw [lsize] at this; exact this
      rw [Lib.bytesWorld_cell w 5 s j hlt]
      simp only [List.getD_eq_getElem?_getD, hx, Option.getD_some]
  · have hg := Lib.bytesWorld_at_new w 5 s
    have hsz : j < (Lib.bytesCells w 5 s).size := by
      rw [List.length_map, lsize] at hj
      simp [Lib.bytesCells]; omega
    unfold World.frozen?
    rw [hg]
    simp
    omega
/-- []byte(s): its numbers. -/
theorem nats_world (w : World) (s : ByteArray) (cap : Nat) : NatsIn (Lib.bytesWorld w 5 s) (.slice (some ⟨w.heap.size, 0, none⟩) s.size cap) (nat8 s.data.toList) := by
  have hl : (nat8 s.data.toList).length = s.size := by rw [nat8, List.length_map, lsize]
  refine .inr ⟨w.heap.size, 0, cap, by rw [hl], fun j hj => ?_⟩
  rw [Nat.zero_add]
  refine (VRow.world w s).cell j _ ?_
  simp only [nat8, List.length_map] at hj
  rw [List.getElem?_map, List.getElem?_eq_getElem hj]
  simp [nat8]

def valV (c : UInt8) : Value := .int .u8 (valN c : Int)
def byteV (c : UInt8) : Value := .int .u8 (c.toNat : Int)

set_option maxRecDepth 100000 in
set_option maxHeartbeats 1000000 in
theorem read_any (s : ByteArray) (hg : good s.data.toList = true) (hs : s.size ≤ 1000000000) (w : World) :
    Calls Tryz.prog 92 #[.string s] w fun e w' => (∃ u, e = .returned u ∧ NatsIn w' u (s.data.toList.map valN)) ∧ Below w.heap.size w w' := by
  have hconv := Lib.run_convert_string_bytes (P := Tryz.prog) w 9 46 5 s Tryz.underlying9 Tryz.underlying46 Tryz.underlying5
  have hrow : VRow (Lib.bytesWorld w 5 s) w.heap.size (mixK valV byteV s.data.toList 0) := by rw [mixK_zero]; exact VRow.world w s
  have hbel := below_bytesWorld w s
  have hsz := Lib.bytesWorld_size w 5 s
  generalize Lib.bytesWorld w 5 s = W at hconv hrow hbel hsz
  generalize grownCap w s.size 0 5 = cap at hconv
  have HZ : w.heap.size < W.heap.size := by omega
  clear hsz
  have HG := Lib.hid (good_mem hg)
  have hll := lsize s
  generalize hL : s.data.toList = l at *
  generalize s.size = n at *
  have HN := Lib.hid hll
  have HL := Lib.hid hL
  clear hll hL hg
  go_enter Tryz.func92, Tryz.ntmps92
  go_wp2
  go_loopw [4, 5, 10] (fun _ _ i wr => ∃ k : Nat, i = .int .i64 k ∧ k ≤ n ∧ VRow wr w.heap.size (mixK valV byteV l k) ∧ Below w.heap.size w wr) (fun _ _ i _ => n - (intOf i).toNat)
  case atStart => exact ⟨0, rfl, Nat.zero_le _, hrow, hbel⟩
  case round =>
    obtain ⟨k, rfl, hk, hr, hb⟩ := hrel
    clear hrow hbel hconv
    by_cases hlt : k < n
    · obtain ⟨b, hb1⟩ : ∃ b, l[k]? = some b := ⟨l[k]'(by rw [HN.out]; exact hlt), List.getElem?_eq_getElem _⟩
      have hcell := hr.cell k _ (mixK_at valV byteV l k b hb1)
      have hfree := hr.free k (by rw [mixK_length, HN.out]; exact hlt)
      have hset := hr.set (k := k) (by rw [mixK_length, HN.out]; exact hlt) (valV b)
      rw [← mixK_succ valV byteV l k b hb1] at hset
      have hbs := hb.setCell (p := ⟨w.heap.size, k, none⟩) (Nat.le_refl _) (valV b)
      have h0 := HG.out b (List.mem_of_getElem? hb1)
      have h63 := (val_rng b).2
      have D := numberK_hid b (valN b : Int) (valN_int h0).symm
      have hv64 := valN_lt b
      have HS := Lib.hid hset
      have HB := Lib.hid hbs
      have es : valV b = .int .u8 (valN b : Int) := rfl
      rw [es] at HS HB
      unfold byteV at hcell
      clear hset hbs es h0 h63 hb1
      generalize valN b = x at *
      go_wp2_with (go_at_call 85; refine (D.out _).mono ?_; rintro e w' ⟨rfl, rfl⟩)
      go_roundw
      case rel => exact ⟨k + 1, by go_num, by omega, HS.out, HB.out⟩
      case measure => simp [intOf]; omega
    · obtain rfl : k = n := by omega
      have hNs : NatsIn wr (.slice (some ⟨w.heap.size, 0, none⟩) k cap) (l.map valN) := by
        refine .inr ⟨w.heap.size, 0, cap, by rw [List.length_map, HN.out], fun j hj => ?_⟩
        rw [Nat.zero_add]
        refine hr.cell j _ ?_
        have := mixK_all valV byteV l
        rw [HN.out] at this
        rw [this]
        rw [List.length_map] at hj
        rw [List.getElem?_map, List.getElem?_eq_getElem hj]
        simp [valV]
      have HNs := Lib.hid hNs
      clear hNs HN HL hr
      go_wp2
      go_ret
      exact ⟨⟨_, rfl, HNs.out⟩, hb⟩

end Go.Proofs.YtmfejcmhbncchaaGreatDoor
