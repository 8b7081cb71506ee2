/- The plain mathematics of match: whether a source lets an address be, over lists of bytes, and what the seven statements want of it. -/
import Derived.Test.YtaldjkbnngeahaaGreatDoorPureZ
namespace Go.Proofs.YtaldjkbnngeahaaGreatDoor

def schL (t i : List UInt8) : Bool := decide (t = i) || (decide (t = HTTP) && decide (i = HTTPS)) || (decide (t = WS) && decide (i = WSS))
def endsL (l t : List UInt8) : Bool := decide (t.length < l.length) && decide (l.drop (l.length - t.length) = t)
def hostL (w : Bool) (sh h : List UInt8) : Bool := if w then (low sh).isEmpty || endsL (low h) (46 :: low sh) else decide (low sh = low h)
def portL (sp : Int) (u : U) : Bool := if sp = -1 then true else if sp = 0 then decide (portU u = (dfl u.s : Int)) else decide (portU u = sp) || (decide (sp = 80) && decide (portU u = 443))
def pathL (t i : List UInt8) (m : Bool) : Bool := t.isEmpty || m || decide (i = t) || (decide (t.getLast? = some 47) && t.isPrefixOf i)
def nearL (u v : U) : Bool := rightM v && !v.o && !u.o && decide (v.h = u.h) && decide (v.p = 0) && decide (u.p = 0) && schL v.s u.s
def selfL (u v : U) : Bool := sameM (originM v) (originM u) || nearL u v
def toldL (a : Src) (v : U) : List UInt8 := if a.s.isEmpty then v.s else a.s
def letsL (a : Src) (u v : U) (m : Bool) : Bool := !u.o && schL (toldL a v) u.s && hostL a.w a.h u.h && portL a.p u && pathL a.pa u.pa m
def urlL (a : Src) (u v : U) (m : Bool) : Bool := rightM u && (if a.k = 11 then schL a.s u.s else if a.k = 12 then letsL a u v m else if a.k = 2 then selfL u v else false)

theorem same_comm (u v : U) : sameM (originM u) (originM v) = sameM (originM v) (originM u) := by
  unfold sameM
  by_cases h : originM u = originM v
  · rw [h]
  · have h2 : ¬ originM v = originM u := fun e => h e.symm
    simp [h, h2]
/-- 'self': what is of the page's own origin; what is of another host. -/
theorem url_self (a : Src) (ha : a.k = 2) (u v : U) (m : Bool) : urlL a u v m = (rightM u && selfL u v) := by
  unfold urlL
  rw [ha]
  rfl
end Go.Proofs.YtaldjkbnngeahaaGreatDoor
