/- The plain mathematics of the two tops over chain: a mark's word in a policy's text; 'self' and an address' own origin. -/
import Derived.Test.YthnogdodlhkldaaGreatDoorPureC
import Derived.Test.YthnogdodlhkldaaGreatDoorPureT
namespace Go.Proofs.YthnogdodlhkldaaGreatDoor

theorem enc_wB (s : List UInt8) : ∀ b ∈ encM s, wB b = true := fun b hb => by
  unfold encM at hb
  rcases List.mem_append.1 hb with h | h
  · obtain ⟨x, hx, rfl⟩ := List.mem_map.1 h
    have h64 := (enc_spec s).2 x hx
    have : ∀ m : Fin 64, wB (sgn m.val) = true := by decide +kernel
    exact this ⟨x, h64⟩
  · unfold fill at h
    rw [List.eq_of_mem_replicate h]
    decide
def mkw (t : List UInt8) : List UInt8 := MRK ++ (encM (markL t) ++ [39])
def mkS (t : List UInt8) : Src := ⟨10, markL t, [], [], false, 0, []⟩
def UH : List UInt8 := [39, 117, 110, 115, 97, 102, 101, 45, 104, 97, 115, 104, 101, 115, 39]
def SLF : List UInt8 := [39, 115, 101, 108, 102, 39]
def uhS : Src := ⟨7, [], [], [], false, 0, []⟩
def slS : Src := ⟨2, [], [], [], false, 0, []⟩
theorem mkw_word (t : List UInt8) : wordH (mkw t) = true := by
  unfold wordH
  rw [Bool.and_eq_true]
  refine ⟨rfl, List.all_eq_true.2 fun b hb => ?_⟩
  unfold mkw at hb
  rcases List.mem_append.1 hb with h | h
  · have : ∀ b ∈ MRK, wB b = true := by decide
    exact this b h
  · rcases List.mem_append.1 h with h | h
    · exact enc_wB _ b h
    · rw [List.mem_singleton.1 h]; decide
theorem mkw_parse (t : List UInt8) : parseS (mkw t) = some (mkS t) := by
  have h : rightS (mkS t) = true := by
    unfold rightS
    rw [if_neg (show ¬ (mkS t).k = 9 by show ¬ (10 : Int) = 9; decide), if_pos (show (mkS t).k = 10 from rfl)]
    have e : decide ((mkS t).t.length = 16) = true := decide_eq_true (mark_length t)
    rw [e]
    rfl
  have := parse_word h
  unfold wordS at this
  rw [if_neg (show ¬ (mkS t).k = 9 by show ¬ (10 : Int) = 9; decide), if_pos (show (mkS t).k = 10 from rfl)] at this
  exact this
theorem uh_parse : parseS UH = some uhS := by decide +kernel
theorem slf_parse : parseS SLF = some slS := by decide +kernel
theorem scr_right {ws : List (List UInt8)} (hl : ws.length ≤ 200) (h : ∀ w ∈ ws, wordH w = true) : rightH [⟨nScr, ws⟩] := by
  refine ⟨by simp, fun d hd => ?_, List.pairwise_singleton _ _⟩
  rw [List.mem_singleton.1 hd]
  unfold dirR
  rw [Bool.and_eq_true, Bool.and_eq_true]
  exact ⟨⟨(show nameH nScr = true by decide), decide_eq_true hl⟩, List.all_eq_true.2 h⟩
theorem scr_pols {ws : List (List UInt8)} (hl : ws.length ≤ 200) (h : ∀ w ∈ ws, wordH w = true) : (parseH (nScr ++ tailT ws)).map (fun p => (p, false)) = [([⟨nScr, ws⟩], false)] := by
  have e : pT [(⟨nScr, ws⟩ : D)] = nScr ++ tailT ws := rfl
  rw [← e, parseH_pT (scr_right hl h)]
  rfl
theorem ok_one (ds : List D) (r : Rq) : okC [(ds, false)] r = (oneC ds r).1 := by
  unfold okC blocksC blocksF blocksF brkC
  cases (oneC ds r).1 <;> rfl
theorem one_scr (ws : List (List UInt8)) (r : Rq) (hk : r.k = 1 ∨ r.k = 2 ∨ r.k = 3) : (oneC [⟨nScr, ws⟩] r).1 = saysC (listS ws) r := by
  have e : effC [⟨nScr, ws⟩] (namesC r.k) = some (ws, nScr) := by
    rcases hk with h | h | h <;> rw [h] <;> rfl
  unfold oneC
  rw [e]
theorem list_mk (t : List UInt8) : listS [mkw t] = [mkS t] := by
  unfold listS
  rw [List.filterMap_cons, mkw_parse]
  rfl
theorem list_mk2 (t : List UInt8) : listS [mkw t, UH] = [mkS t, uhS] := by
  unfold listS
  rw [List.filterMap_cons, mkw_parse, List.filterMap_cons, uh_parse]
  rfl
theorem list_slf : listS [SLF] = [slS] := by
  unfold listS
  rw [List.filterMap_cons, slf_parse]
  rfl
theorem hash_mk (t : List UInt8) (L : List Src) : hashL (mkS t :: L) t = true := by
  unfold hashL textQ mkS
  simp
theorem marks_one (t : List UInt8) (r : Rq) (h1 : r.k = 1) (ht : r.t = t) : okC [([⟨nScr, [mkw t]⟩], false)] r = true := by
  rw [ok_one, one_scr _ _ (.inl h1), list_mk]
  unfold saysC
  rw [h1, if_neg (by decide), if_neg (by decide)]
  unfold inlineL
  rw [if_pos rfl, ht, hash_mk, Bool.or_true]
theorem marks_two (t : List UInt8) (r : Rq) (h3 : r.k = 3) : okC [([⟨nScr, [mkw t]⟩], false)] r = false := by
  rw [ok_one, one_scr _ _ (.inr (.inr h3)), list_mk]
  unfold saysC
  rw [h3, if_neg (by decide), if_neg (by decide)]
  unfold inlineL looseL hasL mkS
  rw [if_neg (by decide), if_pos (by decide)]
  simp
theorem marks_three (t : List UInt8) (r : Rq) (h3 : r.k = 3) (ht : r.t = t) : okC [([⟨nScr, [mkw t, UH]⟩], false)] r = true := by
  rw [ok_one, one_scr _ _ (.inr (.inr h3)), list_mk2]
  unfold saysC
  rw [h3, if_neg (by decide), if_neg (by decide)]
  unfold inlineL
  rw [if_neg (by decide), if_pos (by decide), ht, hash_mk]
  have e : hasL [mkS t, uhS] 7 = true := by
    unfold hasL mkS uhS
    simp
  rw [e, Bool.and_self, Bool.or_true]
theorem self_fetch (u v : U) (r : Rq) (h2 : r.k = 2) (hu : r.u = v) (hv : r.v = u) (hn : r.n = []) (hr : rightM u = true) (ho : u.o = false) (e1 : v.o = u.o) (e2 : v.s = u.s) (e3 : v.h = u.h) (e4 : v.p = u.p) : okC [([⟨nScr, [SLF]⟩], false)] r = rightM v := by
  rw [ok_one, one_scr _ _ (.inr (.inl h2)), list_slf]
  unfold saysC
  rw [if_pos h2, hu, hv, hn]
  unfold fetchL
  rw [if_neg (by unfold hasL slS; simp), no_nonce, Bool.false_or]
  unfold urlsL
  rw [List.any_cons, List.any_nil, Bool.or_false, url_self slS rfl]
  cases hrv : rightM v
  · rfl
  · unfold selfL
    rw [origin_apart hr ho hrv (by rw [e1]; exact ho), e2, e3, e4]
    simp
theorem self_inline (r : Rq) (h1 : r.k = 1) (hn : r.n = []) : okC [([⟨nScr, [SLF]⟩], false)] r = false := by
  rw [ok_one, one_scr _ _ (.inl h1), list_slf]
  unfold saysC
  rw [h1, if_neg (by decide), if_neg (by decide), hn]
  unfold inlineL
  rw [if_pos rfl, no_nonce]
  unfold looseL hasL hashL textQ slS
  simp

end Go.Proofs.YthnogdodlhkldaaGreatDoor
